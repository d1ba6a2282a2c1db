/- One call of a script, told as two numbers. -/
import Derived.Test.YthnocaiehhcdeaaSpecs
namespace Go.Proofs.Ythnocaiehhcdeaa
open Go.ChangeShapes Go.WideShapes Go.ChangeAt Go.RowKit
set_option linter.unusedVariables false

/-- One call of a script. -/
structure OpR where
  kd : Int
  a : Int
  b : Int
  v : Int
  c : Bool
  f : Int
  ot : Bool
def opV (q : OpR) : Value := .agg #[.int .i64 q.kd, .int .i64 q.a, .int .i64 q.b, .int .i64 q.v, .bool q.c, .int .i64 q.f, .bool q.ot]
def opObj (q : OpR) : Obj := .cells #[.int .i64 q.kd, .int .i64 q.a, .int .i64 q.b, .int .i64 q.v, .bool q.c, .int .i64 q.f, .bool q.ot] 38
def arObj : Obj := .cells #[.int .i64 0, .int .i64 0] 69
/-- The labels that a told call touches. -/
def TL (L : Nat) : Nat → Prop := fun k => FL L k ∨ k = 5000
/-- What told answers, and what it leaves. -/
def Told (room : Nat) (s : Sta) (q : OpR) (ch : Bool) (r1 r2 : Int) (t : Sta) : Prop :=
  ∀ w o L p, L + 1100 ≤ 5000 → FoS w o L p room s → Calls Try.prog 31 #[pv p, opV q, .bool ch] w fun e w' => e = .returned (.agg #[.int .i64 r1, .int .i64 r2]) ∧ ∃ o', FoS w' o' L p room t ∧ Step (TL L) w o w' o'

theorem Blk.cells7 {w : World} {o : Nat → Nat} {i b : Nat} {a0 a1 a2 a3 a4 a5 a6 : Value} {t : TypeId} (h : Blk w o i b (.cells #[a0, a1, a2, a3, a4, a5, a6] t (0, 0))) :
    w.cell? ⟨b, 0, none⟩ = some a0 ∧ w.cell? ⟨b, 1, none⟩ = some a1 ∧ w.cell? ⟨b, 2, none⟩ = some a2 ∧ w.cell? ⟨b, 3, none⟩ = some a3 ∧ w.cell? ⟨b, 4, none⟩ = some a4 ∧ w.cell? ⟨b, 5, none⟩ = some a5 ∧ w.cell? ⟨b, 6, none⟩ = some a6 ∧ ∀ j, w.frozen? ⟨b, j, none⟩ = false := by
  refine ⟨?_, ?_, ?_, ?_, ?_, ?_, ?_, fun j => frozen_of_row w b j _ t h.1⟩ <;> simp [cell_of_row w b _ _ t (0, 0) h.1]
theorem Blk.cells2 {w : World} {o : Nat → Nat} {i b : Nat} {a0 a1 : Value} {t : TypeId} (h : Blk w o i b (.cells #[a0, a1] t (0, 0))) :
    w.cell? ⟨b, 0, none⟩ = some a0 ∧ w.cell? ⟨b, 1, none⟩ = some a1 ∧ ∀ j, w.frozen? ⟨b, j, none⟩ = false := by
  refine ⟨?_, ?_, fun j => frozen_of_row w b j _ t h.1⟩ <;> simp [cell_of_row w b _ _ t (0, 0) h.1]
/-- The two blocks that told makes first. -/
theorem told_boxes (w : World) (o : Nat → Nat) (q : OpR) : Blk ((w.alloc (opObj q)).alloc arObj) (newLab w o 5000) 5000 w.heap.size (opObj q) ∧ Blk ((w.alloc (opObj q)).alloc arObj) (newLab w o 5000) 5000 (w.heap.size + 1) arObj ∧ Step (fun _ => False) w o ((w.alloc (opObj q)).alloc arObj) (newLab w o 5000) := by
  have s1 := newStep (fun _ => False) w o 5000 (opObj q)
  have s2 := newB (w.alloc (opObj q)) (newLab w o 5000) arObj
  refine ⟨(Blk.step (i := 5000) (b := w.heap.size) (ob := opObj q) ⟨heap_alloc_new w _, newLab_new (Nat.le_refl _)⟩ s2 id), ⟨?_, newLab_new (by omega)⟩, s1.trans s2⟩
  have := heap_alloc_new (w.alloc (opObj q)) arObj
  have e : (w.alloc (opObj q)).heap.size = w.heap.size + 1 := by simp
  rwa [e] at this
theorem two_set (w : World) (o : Nat → Nat) (b : Nat) (u v : Value) (hb : o b = 5000) : Step (fun k => k = 5000) w o ((w.setCell ⟨b, 0, none⟩ u).setCell ⟨b, 1, none⟩ v) o := ((Step.refl _ w o).setCell _ u hb).setCell _ v hb
theorem TL.not {L : Nat} (h : L + 1100 ≤ 5000) : ¬ FL L 5000 := fun x => by have := x.2; omega
theorem told_end {w w2 : World} {o o2 : Nat → Nat} {L p room : Nat} {t : Sta} (hL : L + 1100 ≤ 5000) (F2 : FoS w2 o2 L p room t) (S2 : Step (TL L) w o w2 o2) (b : Nat) (u v : Value) (hb : o2 b = 5000) :
    ∃ o', FoS ((w2.setCell ⟨b, 0, none⟩ u).setCell ⟨b, 1, none⟩ v) o' L p room t ∧ Step (TL L) w o ((w2.setCell ⟨b, 0, none⟩ u).setCell ⟨b, 1, none⟩ v) o' := by
  have s := two_set w2 o2 b u v hb
  exact ⟨o2, F2.step s (fun k hk e => TL.not hL (e ▸ hk)), S2.trans (s.mono fun k hk => Or.inr hk)⟩

set_option maxRecDepth 100000 in
set_option maxHeartbeats 1000000 in
theorem told3_false {room : Nat} {s : Sta} (q : OpR) (y : It) (r : Int) (hk : q.kd = 3) (h : Acts room s 22 (fun p => #[pv p, .int .i64 q.a]) (.tuple #[itemV y, .int .i64 r]) s) : Told room s q false y.v r s := by
  obtain ⟨kd, qa, qb, qv, qc, qf, qo⟩ := q
  simp only at hk h
  subst hk
  intro w o L p hL F
  obtain ⟨B1, B2, s1⟩ := told_boxes w o ⟨3, qa, qb, qv, qc, qf, qo⟩
  have F1 := F.quiet s1
  have hc := h _ _ L p F1
  have nL := TL.not hL
  simp only [opObj, arObj] at B1 B2 s1 hc F1
  simp only [opV, pv] at hc ⊢
  obtain ⟨c0, c1, c2, c3, c4, c5, c6, cf⟩ := B1.cells7
  obtain ⟨d0, d1, df⟩ := B2.cells2
  unfold itemV at hc
  go_enter Try.func31, Try.ntmps31
  go_wp2_with fail
  refine hc.mono ?_
  rintro e w2 ⟨rfl, o2, F2, S2⟩
  have n3 := newB w2 o2 (.cells #[.int .i64 y.v, .bool y.c, .int .i64 y.f] 36)
  have C1 := (B1.step S2 nL).step n3 id
  have C2 := (B2.step S2 nL).step n3 id
  have F3 := F2.quiet n3
  have S3 : Step (TL L) w o _ o2 := ((s1.mono (J := TL L) fun _ h => h.elim).trans (S2.mono (J := TL L) fun k hk => Or.inl hk)).trans (n3.mono (J := TL L) fun _ h => h.elim)
  obtain ⟨e0, e1, e2, e3, e4, e5, e6, ef⟩ := C1.cells7
  obtain ⟨g0, g1, gf⟩ := C2.cells2
  have E := told_end hL F3 S3 (w.heap.size + 1) (.int .i64 y.v) (.int .i64 r) C2.2
  clear hc F F1 F2 F3 S2 S3 B1 B2 C1 C2 s1 nL c0 c1 c2 c3 c4 c5 c6 cf d0 d1 df n3
  go_wp2
  exact bodyPost_ret (v := .agg #[.int .i64 y.v, .int .i64 r]) (by simp [results, Try.results31, go_sem, g0, g1]) rfl ⟨rfl, E⟩

set_option maxRecDepth 100000 in
set_option maxHeartbeats 1000000 in
theorem told3_true {room : Nat} {s : Sta} (q : OpR) (y : It) (r : Int) (hk : q.kd = 3) (h : Acts room s 22 (fun p => #[pv p, .int .i64 q.a]) (.tuple #[itemV y, .int .i64 r]) s) : Told room s q true y.v r s := by
  obtain ⟨kd, qa, qb, qv, qc, qf, qo⟩ := q
  simp only at hk h
  subst hk
  intro w o L p hL F
  obtain ⟨B1, B2, s1⟩ := told_boxes w o ⟨3, qa, qb, qv, qc, qf, qo⟩
  have F1 := F.quiet s1
  have hc := h _ _ L p F1
  have nL := TL.not hL
  simp only [opObj, arObj] at B1 B2 s1 hc F1
  simp only [opV, pv] at hc ⊢
  obtain ⟨c0, c1, c2, c3, c4, c5, c6, cf⟩ := B1.cells7
  obtain ⟨d0, d1, df⟩ := B2.cells2
  unfold itemV at hc
  go_enter Try.func31, Try.ntmps31
  go_wp2_with fail
  refine hc.mono ?_
  rintro e w2 ⟨rfl, o2, F2, S2⟩
  have n3 := newB w2 o2 (.cells #[.int .i64 y.v, .bool y.c, .int .i64 y.f] 36)
  have C1 := (B1.step S2 nL).step n3 id
  have C2 := (B2.step S2 nL).step n3 id
  have F3 := F2.quiet n3
  have S3 : Step (TL L) w o _ o2 := ((s1.mono (J := TL L) fun _ h => h.elim).trans (S2.mono (J := TL L) fun k hk => Or.inl hk)).trans (n3.mono (J := TL L) fun _ h => h.elim)
  obtain ⟨e0, e1, e2, e3, e4, e5, e6, ef⟩ := C1.cells7
  obtain ⟨g0, g1, gf⟩ := C2.cells2
  have E := told_end hL F3 S3 (w.heap.size + 1) (.int .i64 y.v) (.int .i64 r) C2.2
  clear hc F F1 F2 F3 S2 S3 B1 B2 C1 C2 s1 nL c0 c1 c2 c3 c4 c5 c6 cf d0 d1 df n3
  go_wp2
  exact bodyPost_ret (v := .agg #[.int .i64 y.v, .int .i64 r]) (by simp [results, Try.results31, go_sem, g0, g1]) rfl ⟨rfl, E⟩

set_option maxRecDepth 100000 in
set_option maxHeartbeats 1000000 in
theorem told7_false {room : Nat} {s : Sta} (q : OpR) (bb : Bool) (r : Int) (hk : q.kd = 7) (h : Acts room s 19 (fun p => #[pv p, .int .i64 q.a, .int .i64 q.b]) (.tuple #[.bool bb, .int .i64 r]) s) : Told room s q false (if bb = true then 1 else 0) r s := by
  obtain ⟨kd, qa, qb, qv, qc, qf, qo⟩ := q
  simp only at hk h
  subst hk
  intro w o L p hL F
  obtain ⟨B1, B2, s1⟩ := told_boxes w o ⟨7, qa, qb, qv, qc, qf, qo⟩
  have F1 := F.quiet s1
  have hc := h _ _ L p F1
  have nL := TL.not hL
  simp only [opObj, arObj] at B1 B2 s1 hc F1
  simp only [opV, pv] at hc ⊢
  obtain ⟨c0, c1, c2, c3, c4, c5, c6, cf⟩ := B1.cells7
  obtain ⟨d0, d1, df⟩ := B2.cells2
  cases bb
  · show Calls _ _ _ _ fun e w' => e = .returned (.agg #[.int .i64 0, .int .i64 r]) ∧ _
    go_enter Try.func31, Try.ntmps31
    go_wp2_with fail
    refine hc.mono ?_
    rintro e w2 ⟨rfl, o2, F2, S2⟩
    have C1 := B1.step S2 nL
    have C2 := B2.step S2 nL
    have F3 := F2
    have S3 : Step (TL L) w o _ o2 := (s1.mono (J := TL L) fun _ h => h.elim).trans (S2.mono (J := TL L) fun k hk => Or.inl hk)
    obtain ⟨e0, e1, e2, e3, e4, e5, e6, ef⟩ := C1.cells7
    obtain ⟨g0, g1, gf⟩ := C2.cells2
    have E := told_end hL F3 S3 (w.heap.size + 1) (.int .i64 0) (.int .i64 r) C2.2
    clear hc F F1 F2 F3 S2 S3 B1 B2 C1 C2 s1 nL c0 c1 c2 c3 c4 c5 c6 cf d0 d1 df
    go_wp2
    exact bodyPost_ret (v := .agg #[.int .i64 0, .int .i64 r]) (by simp [results, Try.results31, go_sem, g0, g1]) rfl ⟨rfl, E⟩

  · show Calls _ _ _ _ fun e w' => e = .returned (.agg #[.int .i64 1, .int .i64 r]) ∧ _
    go_enter Try.func31, Try.ntmps31
    go_wp2_with fail
    refine hc.mono ?_
    rintro e w2 ⟨rfl, o2, F2, S2⟩
    have C1 := B1.step S2 nL
    have C2 := B2.step S2 nL
    have F3 := F2
    have S3 : Step (TL L) w o _ o2 := (s1.mono (J := TL L) fun _ h => h.elim).trans (S2.mono (J := TL L) fun k hk => Or.inl hk)
    obtain ⟨e0, e1, e2, e3, e4, e5, e6, ef⟩ := C1.cells7
    obtain ⟨g0, g1, gf⟩ := C2.cells2
    have E := told_end hL F3 S3 (w.heap.size + 1) (.int .i64 1) (.int .i64 r) C2.2
    clear hc F F1 F2 F3 S2 S3 B1 B2 C1 C2 s1 nL c0 c1 c2 c3 c4 c5 c6 cf d0 d1 df
    go_wp2
    exact bodyPost_ret (v := .agg #[.int .i64 1, .int .i64 r]) (by simp [results, Try.results31, go_sem, g0, g1]) rfl ⟨rfl, E⟩


set_option maxRecDepth 100000 in
set_option maxHeartbeats 1000000 in
theorem told7_true {room : Nat} {s : Sta} (q : OpR) (bb : Bool) (r : Int) (hk : q.kd = 7) (h : Acts room s 19 (fun p => #[pv p, .int .i64 q.a, .int .i64 q.b]) (.tuple #[.bool bb, .int .i64 r]) s) : Told room s q true (if bb = true then 1 else 0) r s := by
  obtain ⟨kd, qa, qb, qv, qc, qf, qo⟩ := q
  simp only at hk h
  subst hk
  intro w o L p hL F
  obtain ⟨B1, B2, s1⟩ := told_boxes w o ⟨7, qa, qb, qv, qc, qf, qo⟩
  have F1 := F.quiet s1
  have hc := h _ _ L p F1
  have nL := TL.not hL
  simp only [opObj, arObj] at B1 B2 s1 hc F1
  simp only [opV, pv] at hc ⊢
  obtain ⟨c0, c1, c2, c3, c4, c5, c6, cf⟩ := B1.cells7
  obtain ⟨d0, d1, df⟩ := B2.cells2
  cases bb
  · show Calls _ _ _ _ fun e w' => e = .returned (.agg #[.int .i64 0, .int .i64 r]) ∧ _
    go_enter Try.func31, Try.ntmps31
    go_wp2_with fail
    refine hc.mono ?_
    rintro e w2 ⟨rfl, o2, F2, S2⟩
    have C1 := B1.step S2 nL
    have C2 := B2.step S2 nL
    have F3 := F2
    have S3 : Step (TL L) w o _ o2 := (s1.mono (J := TL L) fun _ h => h.elim).trans (S2.mono (J := TL L) fun k hk => Or.inl hk)
    obtain ⟨e0, e1, e2, e3, e4, e5, e6, ef⟩ := C1.cells7
    obtain ⟨g0, g1, gf⟩ := C2.cells2
    have E := told_end hL F3 S3 (w.heap.size + 1) (.int .i64 0) (.int .i64 r) C2.2
    clear hc F F1 F2 F3 S2 S3 B1 B2 C1 C2 s1 nL c0 c1 c2 c3 c4 c5 c6 cf d0 d1 df
    go_wp2
    exact bodyPost_ret (v := .agg #[.int .i64 0, .int .i64 r]) (by simp [results, Try.results31, go_sem, g0, g1]) rfl ⟨rfl, E⟩

  · show Calls _ _ _ _ fun e w' => e = .returned (.agg #[.int .i64 1, .int .i64 r]) ∧ _
    go_enter Try.func31, Try.ntmps31
    go_wp2_with fail
    refine hc.mono ?_
    rintro e w2 ⟨rfl, o2, F2, S2⟩
    have C1 := B1.step S2 nL
    have C2 := B2.step S2 nL
    have F3 := F2
    have S3 : Step (TL L) w o _ o2 := (s1.mono (J := TL L) fun _ h => h.elim).trans (S2.mono (J := TL L) fun k hk => Or.inl hk)
    obtain ⟨e0, e1, e2, e3, e4, e5, e6, ef⟩ := C1.cells7
    obtain ⟨g0, g1, gf⟩ := C2.cells2
    have E := told_end hL F3 S3 (w.heap.size + 1) (.int .i64 1) (.int .i64 r) C2.2
    clear hc F F1 F2 F3 S2 S3 B1 B2 C1 C2 s1 nL c0 c1 c2 c3 c4 c5 c6 cf d0 d1 df
    go_wp2
    exact bodyPost_ret (v := .agg #[.int .i64 1, .int .i64 r]) (by simp [results, Try.results31, go_sem, g0, g1]) rfl ⟨rfl, E⟩


set_option maxRecDepth 100000 in
set_option maxHeartbeats 1000000 in
theorem told8_false {room : Nat} {s : Sta} (q : OpR) (m r : Int) (hk : q.kd = 8) (h : Acts room s 26 (fun p => #[pv p, .int .i64 q.a]) (.tuple #[.int .i64 m, .int .i64 r]) s) : Told room s q false m r s := by
  obtain ⟨kd, qa, qb, qv, qc, qf, qo⟩ := q
  simp only at hk h
  subst hk
  intro w o L p hL F
  obtain ⟨B1, B2, s1⟩ := told_boxes w o ⟨8, qa, qb, qv, qc, qf, qo⟩
  have F1 := F.quiet s1
  have hc := h _ _ L p F1
  have nL := TL.not hL
  simp only [opObj, arObj] at B1 B2 s1 hc F1
  simp only [opV, pv] at hc ⊢
  obtain ⟨c0, c1, c2, c3, c4, c5, c6, cf⟩ := B1.cells7
  obtain ⟨d0, d1, df⟩ := B2.cells2
  go_enter Try.func31, Try.ntmps31
  go_wp2_with fail
  refine hc.mono ?_
  rintro e w2 ⟨rfl, o2, F2, S2⟩
  have C1 := B1.step S2 nL
  have C2 := B2.step S2 nL
  have F3 := F2
  have S3 : Step (TL L) w o _ o2 := (s1.mono (J := TL L) fun _ h => h.elim).trans (S2.mono (J := TL L) fun k hk => Or.inl hk)
  obtain ⟨e0, e1, e2, e3, e4, e5, e6, ef⟩ := C1.cells7
  obtain ⟨g0, g1, gf⟩ := C2.cells2
  have E := told_end hL F3 S3 (w.heap.size + 1) (.int .i64 m) (.int .i64 r) C2.2
  clear hc F F1 F2 F3 S2 S3 B1 B2 C1 C2 s1 nL c0 c1 c2 c3 c4 c5 c6 cf d0 d1 df
  go_wp2
  exact bodyPost_ret (v := .agg #[.int .i64 m, .int .i64 r]) (by simp [results, Try.results31, go_sem, g0, g1]) rfl ⟨rfl, E⟩

set_option maxRecDepth 100000 in
set_option maxHeartbeats 1000000 in
theorem told8_true {room : Nat} {s : Sta} (q : OpR) (m r : Int) (hk : q.kd = 8) (h : Acts room s 26 (fun p => #[pv p, .int .i64 q.a]) (.tuple #[.int .i64 m, .int .i64 r]) s) : Told room s q true m r s := by
  obtain ⟨kd, qa, qb, qv, qc, qf, qo⟩ := q
  simp only at hk h
  subst hk
  intro w o L p hL F
  obtain ⟨B1, B2, s1⟩ := told_boxes w o ⟨8, qa, qb, qv, qc, qf, qo⟩
  have F1 := F.quiet s1
  have hc := h _ _ L p F1
  have nL := TL.not hL
  simp only [opObj, arObj] at B1 B2 s1 hc F1
  simp only [opV, pv] at hc ⊢
  obtain ⟨c0, c1, c2, c3, c4, c5, c6, cf⟩ := B1.cells7
  obtain ⟨d0, d1, df⟩ := B2.cells2
  go_enter Try.func31, Try.ntmps31
  go_wp2_with fail
  refine hc.mono ?_
  rintro e w2 ⟨rfl, o2, F2, S2⟩
  have C1 := B1.step S2 nL
  have C2 := B2.step S2 nL
  have F3 := F2
  have S3 : Step (TL L) w o _ o2 := (s1.mono (J := TL L) fun _ h => h.elim).trans (S2.mono (J := TL L) fun k hk => Or.inl hk)
  obtain ⟨e0, e1, e2, e3, e4, e5, e6, ef⟩ := C1.cells7
  obtain ⟨g0, g1, gf⟩ := C2.cells2
  have E := told_end hL F3 S3 (w.heap.size + 1) (.int .i64 m) (.int .i64 r) C2.2
  clear hc F F1 F2 F3 S2 S3 B1 B2 C1 C2 s1 nL c0 c1 c2 c3 c4 c5 c6 cf d0 d1 df
  go_wp2
  exact bodyPost_ret (v := .agg #[.int .i64 m, .int .i64 r]) (by simp [results, Try.results31, go_sem, g0, g1]) rfl ⟨rfl, E⟩

set_option maxRecDepth 100000 in
set_option maxHeartbeats 1000000 in
theorem told9_false {room : Nat} {s : Sta} (q : OpR) (m r : Int) (hk : q.kd = 9) (h : Acts room s 27 (fun p => #[pv p, .int .i64 q.a, .int .i64 q.b]) (.tuple #[.int .i64 m, .int .i64 r]) s) : Told room s q false m r s := by
  obtain ⟨kd, qa, qb, qv, qc, qf, qo⟩ := q
  simp only at hk h
  subst hk
  intro w o L p hL F
  obtain ⟨B1, B2, s1⟩ := told_boxes w o ⟨9, qa, qb, qv, qc, qf, qo⟩
  have F1 := F.quiet s1
  have hc := h _ _ L p F1
  have nL := TL.not hL
  simp only [opObj, arObj] at B1 B2 s1 hc F1
  simp only [opV, pv] at hc ⊢
  obtain ⟨c0, c1, c2, c3, c4, c5, c6, cf⟩ := B1.cells7
  obtain ⟨d0, d1, df⟩ := B2.cells2
  go_enter Try.func31, Try.ntmps31
  go_wp2_with fail
  refine hc.mono ?_
  rintro e w2 ⟨rfl, o2, F2, S2⟩
  have C1 := B1.step S2 nL
  have C2 := B2.step S2 nL
  have F3 := F2
  have S3 : Step (TL L) w o _ o2 := (s1.mono (J := TL L) fun _ h => h.elim).trans (S2.mono (J := TL L) fun k hk => Or.inl hk)
  obtain ⟨e0, e1, e2, e3, e4, e5, e6, ef⟩ := C1.cells7
  obtain ⟨g0, g1, gf⟩ := C2.cells2
  have E := told_end hL F3 S3 (w.heap.size + 1) (.int .i64 m) (.int .i64 r) C2.2
  clear hc F F1 F2 F3 S2 S3 B1 B2 C1 C2 s1 nL c0 c1 c2 c3 c4 c5 c6 cf d0 d1 df
  go_wp2
  exact bodyPost_ret (v := .agg #[.int .i64 m, .int .i64 r]) (by simp [results, Try.results31, go_sem, g0, g1]) rfl ⟨rfl, E⟩

set_option maxRecDepth 100000 in
set_option maxHeartbeats 1000000 in
theorem told9_true {room : Nat} {s : Sta} (q : OpR) (m r : Int) (hk : q.kd = 9) (h : Acts room s 27 (fun p => #[pv p, .int .i64 q.a, .int .i64 q.b]) (.tuple #[.int .i64 m, .int .i64 r]) s) : Told room s q true m r s := by
  obtain ⟨kd, qa, qb, qv, qc, qf, qo⟩ := q
  simp only at hk h
  subst hk
  intro w o L p hL F
  obtain ⟨B1, B2, s1⟩ := told_boxes w o ⟨9, qa, qb, qv, qc, qf, qo⟩
  have F1 := F.quiet s1
  have hc := h _ _ L p F1
  have nL := TL.not hL
  simp only [opObj, arObj] at B1 B2 s1 hc F1
  simp only [opV, pv] at hc ⊢
  obtain ⟨c0, c1, c2, c3, c4, c5, c6, cf⟩ := B1.cells7
  obtain ⟨d0, d1, df⟩ := B2.cells2
  go_enter Try.func31, Try.ntmps31
  go_wp2_with fail
  refine hc.mono ?_
  rintro e w2 ⟨rfl, o2, F2, S2⟩
  have C1 := B1.step S2 nL
  have C2 := B2.step S2 nL
  have F3 := F2
  have S3 : Step (TL L) w o _ o2 := (s1.mono (J := TL L) fun _ h => h.elim).trans (S2.mono (J := TL L) fun k hk => Or.inl hk)
  obtain ⟨e0, e1, e2, e3, e4, e5, e6, ef⟩ := C1.cells7
  obtain ⟨g0, g1, gf⟩ := C2.cells2
  have E := told_end hL F3 S3 (w.heap.size + 1) (.int .i64 m) (.int .i64 r) C2.2
  clear hc F F1 F2 F3 S2 S3 B1 B2 C1 C2 s1 nL c0 c1 c2 c3 c4 c5 c6 cf d0 d1 df
  go_wp2
  exact bodyPost_ret (v := .agg #[.int .i64 m, .int .i64 r]) (by simp [results, Try.results31, go_sem, g0, g1]) rfl ⟨rfl, E⟩

set_option maxRecDepth 100000 in
set_option maxHeartbeats 1000000 in
theorem told10_false {room : Nat} {s : Sta} (q : OpR) (G : Ag) (r : Int) (hk : q.kd = 10) (h : Acts room s 28 (fun p => #[pv p, .int .i64 q.a]) (.tuple #[aggV G, .int .i64 r]) s) : Told room s q false G.sum r s := by
  obtain ⟨kd, qa, qb, qv, qc, qf, qo⟩ := q
  simp only at hk h
  subst hk
  intro w o L p hL F
  obtain ⟨B1, B2, s1⟩ := told_boxes w o ⟨10, qa, qb, qv, qc, qf, qo⟩
  have F1 := F.quiet s1
  have hc := h _ _ L p F1
  have nL := TL.not hL
  simp only [opObj, arObj] at B1 B2 s1 hc F1
  simp only [opV, pv] at hc ⊢
  obtain ⟨c0, c1, c2, c3, c4, c5, c6, cf⟩ := B1.cells7
  obtain ⟨d0, d1, df⟩ := B2.cells2
  unfold aggV at hc
  go_enter Try.func31, Try.ntmps31
  go_wp2_with fail
  refine hc.mono ?_
  rintro e w2 ⟨rfl, o2, F2, S2⟩
  have n3 := newB w2 o2 (.cells #[.int .i64 G.count, .int .i64 G.sum, .int .i64 G.least, .int .i64 G.most, .int .i64 G.flags] 64)
  have C1 := (B1.step S2 nL).step n3 id
  have C2 := (B2.step S2 nL).step n3 id
  have F3 := F2.quiet n3
  have S3 : Step (TL L) w o _ o2 := ((s1.mono (J := TL L) fun _ h => h.elim).trans (S2.mono (J := TL L) fun k hk => Or.inl hk)).trans (n3.mono (J := TL L) fun _ h => h.elim)
  obtain ⟨e0, e1, e2, e3, e4, e5, e6, ef⟩ := C1.cells7
  obtain ⟨g0, g1, gf⟩ := C2.cells2
  have E := told_end hL F3 S3 (w.heap.size + 1) (.int .i64 G.sum) (.int .i64 r) C2.2
  clear hc F F1 F2 F3 S2 S3 B1 B2 C1 C2 s1 nL c0 c1 c2 c3 c4 c5 c6 cf d0 d1 df n3
  go_wp2
  exact bodyPost_ret (v := .agg #[.int .i64 G.sum, .int .i64 r]) (by simp [results, Try.results31, go_sem, g0, g1]) rfl ⟨rfl, E⟩

set_option maxRecDepth 100000 in
set_option maxHeartbeats 1000000 in
theorem told10_true {room : Nat} {s : Sta} (q : OpR) (G : Ag) (r : Int) (hk : q.kd = 10) (h : Acts room s 28 (fun p => #[pv p, .int .i64 q.a]) (.tuple #[aggV G, .int .i64 r]) s) : Told room s q true G.sum r s := by
  obtain ⟨kd, qa, qb, qv, qc, qf, qo⟩ := q
  simp only at hk h
  subst hk
  intro w o L p hL F
  obtain ⟨B1, B2, s1⟩ := told_boxes w o ⟨10, qa, qb, qv, qc, qf, qo⟩
  have F1 := F.quiet s1
  have hc := h _ _ L p F1
  have nL := TL.not hL
  simp only [opObj, arObj] at B1 B2 s1 hc F1
  simp only [opV, pv] at hc ⊢
  obtain ⟨c0, c1, c2, c3, c4, c5, c6, cf⟩ := B1.cells7
  obtain ⟨d0, d1, df⟩ := B2.cells2
  unfold aggV at hc
  go_enter Try.func31, Try.ntmps31
  go_wp2_with fail
  refine hc.mono ?_
  rintro e w2 ⟨rfl, o2, F2, S2⟩
  have n3 := newB w2 o2 (.cells #[.int .i64 G.count, .int .i64 G.sum, .int .i64 G.least, .int .i64 G.most, .int .i64 G.flags] 64)
  have C1 := (B1.step S2 nL).step n3 id
  have C2 := (B2.step S2 nL).step n3 id
  have F3 := F2.quiet n3
  have S3 : Step (TL L) w o _ o2 := ((s1.mono (J := TL L) fun _ h => h.elim).trans (S2.mono (J := TL L) fun k hk => Or.inl hk)).trans (n3.mono (J := TL L) fun _ h => h.elim)
  obtain ⟨e0, e1, e2, e3, e4, e5, e6, ef⟩ := C1.cells7
  obtain ⟨g0, g1, gf⟩ := C2.cells2
  have E := told_end hL F3 S3 (w.heap.size + 1) (.int .i64 G.sum) (.int .i64 r) C2.2
  clear hc F F1 F2 F3 S2 S3 B1 B2 C1 C2 s1 nL c0 c1 c2 c3 c4 c5 c6 cf d0 d1 df n3
  go_wp2
  exact bodyPost_ret (v := .agg #[.int .i64 G.sum, .int .i64 r]) (by simp [results, Try.results31, go_sem, g0, g1]) rfl ⟨rfl, E⟩

set_option maxRecDepth 100000 in
set_option maxHeartbeats 1000000 in
theorem told11_false {room : Nat} {s : Sta} (q : OpR) (m r : Int) (hk : q.kd = 11) (h : Acts room s 34 (fun p => #[pv p, .int .i64 q.a, .int .i64 q.b]) (.tuple #[.int .i64 m, .int .i64 r]) s) : Told room s q false m r s := by
  obtain ⟨kd, qa, qb, qv, qc, qf, qo⟩ := q
  simp only at hk h
  subst hk
  intro w o L p hL F
  obtain ⟨B1, B2, s1⟩ := told_boxes w o ⟨11, qa, qb, qv, qc, qf, qo⟩
  have F1 := F.quiet s1
  have hc := h _ _ L p F1
  have nL := TL.not hL
  simp only [opObj, arObj] at B1 B2 s1 hc F1
  simp only [opV, pv] at hc ⊢
  obtain ⟨c0, c1, c2, c3, c4, c5, c6, cf⟩ := B1.cells7
  obtain ⟨d0, d1, df⟩ := B2.cells2
  go_enter Try.func31, Try.ntmps31
  go_wp2_with fail
  refine hc.mono ?_
  rintro e w2 ⟨rfl, o2, F2, S2⟩
  have C1 := B1.step S2 nL
  have C2 := B2.step S2 nL
  have F3 := F2
  have S3 : Step (TL L) w o _ o2 := (s1.mono (J := TL L) fun _ h => h.elim).trans (S2.mono (J := TL L) fun k hk => Or.inl hk)
  obtain ⟨e0, e1, e2, e3, e4, e5, e6, ef⟩ := C1.cells7
  obtain ⟨g0, g1, gf⟩ := C2.cells2
  have E := told_end hL F3 S3 (w.heap.size + 1) (.int .i64 m) (.int .i64 r) C2.2
  clear hc F F1 F2 F3 S2 S3 B1 B2 C1 C2 s1 nL c0 c1 c2 c3 c4 c5 c6 cf d0 d1 df
  go_wp2
  exact bodyPost_ret (v := .agg #[.int .i64 m, .int .i64 r]) (by simp [results, Try.results31, go_sem, g0, g1]) rfl ⟨rfl, E⟩

set_option maxRecDepth 100000 in
set_option maxHeartbeats 1000000 in
theorem told11_true {room : Nat} {s : Sta} (q : OpR) (m r : Int) (hk : q.kd = 11) (h : Acts room s 34 (fun p => #[pv p, .int .i64 q.a, .int .i64 q.b]) (.tuple #[.int .i64 m, .int .i64 r]) s) : Told room s q true m r s := by
  obtain ⟨kd, qa, qb, qv, qc, qf, qo⟩ := q
  simp only at hk h
  subst hk
  intro w o L p hL F
  obtain ⟨B1, B2, s1⟩ := told_boxes w o ⟨11, qa, qb, qv, qc, qf, qo⟩
  have F1 := F.quiet s1
  have hc := h _ _ L p F1
  have nL := TL.not hL
  simp only [opObj, arObj] at B1 B2 s1 hc F1
  simp only [opV, pv] at hc ⊢
  obtain ⟨c0, c1, c2, c3, c4, c5, c6, cf⟩ := B1.cells7
  obtain ⟨d0, d1, df⟩ := B2.cells2
  go_enter Try.func31, Try.ntmps31
  go_wp2_with fail
  refine hc.mono ?_
  rintro e w2 ⟨rfl, o2, F2, S2⟩
  have C1 := B1.step S2 nL
  have C2 := B2.step S2 nL
  have F3 := F2
  have S3 : Step (TL L) w o _ o2 := (s1.mono (J := TL L) fun _ h => h.elim).trans (S2.mono (J := TL L) fun k hk => Or.inl hk)
  obtain ⟨e0, e1, e2, e3, e4, e5, e6, ef⟩ := C1.cells7
  obtain ⟨g0, g1, gf⟩ := C2.cells2
  have E := told_end hL F3 S3 (w.heap.size + 1) (.int .i64 m) (.int .i64 r) C2.2
  clear hc F F1 F2 F3 S2 S3 B1 B2 C1 C2 s1 nL c0 c1 c2 c3 c4 c5 c6 cf d0 d1 df
  go_wp2
  exact bodyPost_ret (v := .agg #[.int .i64 m, .int .i64 r]) (by simp [results, Try.results31, go_sem, g0, g1]) rfl ⟨rfl, E⟩

set_option maxRecDepth 100000 in
set_option maxHeartbeats 1000000 in
theorem told1_true {room : Nat} {s t : Sta} (q : OpR) (m r : Int) (hk : q.kd = 1) (h : Acts room s 29 (fun p => #[pv p, itemR q.v q.c q.f]) (.tuple #[.int .i64 m, .int .i64 r]) t) : Told room s q true m r t := by
  obtain ⟨kd, qa, qb, qv, qc, qf, qo⟩ := q
  simp only at hk h
  subst hk
  intro w o L p hL F
  obtain ⟨B1, B2, s1⟩ := told_boxes w o ⟨1, qa, qb, qv, qc, qf, qo⟩
  have F1 := F.quiet s1
  have hc := h _ _ L p F1
  have nL := TL.not hL
  simp only [opObj, arObj] at B1 B2 s1 hc F1
  simp only [opV, pv] at hc ⊢
  unfold itemR at hc
  obtain ⟨c0, c1, c2, c3, c4, c5, c6, cf⟩ := B1.cells7
  obtain ⟨d0, d1, df⟩ := B2.cells2
  go_enter Try.func31, Try.ntmps31
  go_wp2_with fail
  refine hc.mono ?_
  rintro e w2 ⟨rfl, o2, F2, S2⟩
  have C1 := B1.step S2 nL
  have C2 := B2.step S2 nL
  have S3 : Step (TL L) w o _ o2 := (s1.mono (J := TL L) fun _ h => h.elim).trans (S2.mono (J := TL L) fun k hk => Or.inl hk)
  obtain ⟨g0, g1, gf⟩ := C2.cells2
  have E := told_end hL F2 S3 (w.heap.size + 1) (.int .i64 m) (.int .i64 r) C2.2
  clear hc F F1 F2 S2 S3 B1 B2 C1 C2 s1 nL c0 c1 c2 c3 c4 c5 c6 cf d0 d1 df
  go_wp2
  exact bodyPost_ret (v := .agg #[.int .i64 m, .int .i64 r]) (by simp [results, Try.results31, go_sem, g0, g1]) rfl ⟨rfl, E⟩

set_option maxRecDepth 100000 in
set_option maxHeartbeats 1000000 in
theorem told2_true {room : Nat} {s t : Sta} (q : OpR) (r : Int) (hk : q.kd = 2) (h : Acts room s 30 (fun p => #[pv p, .int .i64 q.a]) (.int .i64 r) t) : Told room s q true 0 r t := by
  obtain ⟨kd, qa, qb, qv, qc, qf, qo⟩ := q
  simp only at hk h
  subst hk
  intro w o L p hL F
  obtain ⟨B1, B2, s1⟩ := told_boxes w o ⟨2, qa, qb, qv, qc, qf, qo⟩
  have F1 := F.quiet s1
  have hc := h _ _ L p F1
  have nL := TL.not hL
  simp only [opObj, arObj] at B1 B2 s1 hc F1
  simp only [opV, pv] at hc ⊢
  skip
  obtain ⟨c0, c1, c2, c3, c4, c5, c6, cf⟩ := B1.cells7
  obtain ⟨d0, d1, df⟩ := B2.cells2
  go_enter Try.func31, Try.ntmps31
  go_wp2_with fail
  refine hc.mono ?_
  rintro e w2 ⟨rfl, o2, F2, S2⟩
  have C1 := B1.step S2 nL
  have C2 := B2.step S2 nL
  have S3 : Step (TL L) w o _ o2 := (s1.mono (J := TL L) fun _ h => h.elim).trans (S2.mono (J := TL L) fun k hk => Or.inl hk)
  obtain ⟨g0, g1, gf⟩ := C2.cells2
  have E := told_end hL F2 S3 (w.heap.size + 1) (.int .i64 0) (.int .i64 r) C2.2
  clear hc F F1 F2 S2 S3 B1 B2 C1 C2 s1 nL c0 c1 c2 c3 c4 c5 c6 cf d0 d1 df
  go_wp2
  exact bodyPost_ret (v := .agg #[.int .i64 0, .int .i64 r]) (by simp [results, Try.results31, go_sem, g0, g1]) rfl ⟨rfl, E⟩

set_option maxRecDepth 100000 in
set_option maxHeartbeats 1000000 in
theorem told4_true {room : Nat} {s t : Sta} (q : OpR) (r : Int) (hk : q.kd = 4) (h : Acts room s 25 (fun p => #[pv p, .int .i64 q.a, itemR q.v q.c q.f]) (.int .i64 r) t) : Told room s q true 0 r t := by
  obtain ⟨kd, qa, qb, qv, qc, qf, qo⟩ := q
  simp only at hk h
  subst hk
  intro w o L p hL F
  obtain ⟨B1, B2, s1⟩ := told_boxes w o ⟨4, qa, qb, qv, qc, qf, qo⟩
  have F1 := F.quiet s1
  have hc := h _ _ L p F1
  have nL := TL.not hL
  simp only [opObj, arObj] at B1 B2 s1 hc F1
  simp only [opV, pv] at hc ⊢
  unfold itemR at hc
  obtain ⟨c0, c1, c2, c3, c4, c5, c6, cf⟩ := B1.cells7
  obtain ⟨d0, d1, df⟩ := B2.cells2
  go_enter Try.func31, Try.ntmps31
  go_wp2_with fail
  refine hc.mono ?_
  rintro e w2 ⟨rfl, o2, F2, S2⟩
  have C1 := B1.step S2 nL
  have C2 := B2.step S2 nL
  have S3 : Step (TL L) w o _ o2 := (s1.mono (J := TL L) fun _ h => h.elim).trans (S2.mono (J := TL L) fun k hk => Or.inl hk)
  obtain ⟨g0, g1, gf⟩ := C2.cells2
  have E := told_end hL F2 S3 (w.heap.size + 1) (.int .i64 0) (.int .i64 r) C2.2
  clear hc F F1 F2 S2 S3 B1 B2 C1 C2 s1 nL c0 c1 c2 c3 c4 c5 c6 cf d0 d1 df
  go_wp2
  exact bodyPost_ret (v := .agg #[.int .i64 0, .int .i64 r]) (by simp [results, Try.results31, go_sem, g0, g1]) rfl ⟨rfl, E⟩

set_option maxRecDepth 100000 in
set_option maxHeartbeats 1000000 in
theorem told5_true {room : Nat} {s t : Sta} (q : OpR) (r : Int) (hk : q.kd = 5) (h : Acts room s 20 (fun p => #[pv p, .int .i64 q.a, .int .i64 q.b]) (.int .i64 r) t) : Told room s q true 0 r t := by
  obtain ⟨kd, qa, qb, qv, qc, qf, qo⟩ := q
  simp only at hk h
  subst hk
  intro w o L p hL F
  obtain ⟨B1, B2, s1⟩ := told_boxes w o ⟨5, qa, qb, qv, qc, qf, qo⟩
  have F1 := F.quiet s1
  have hc := h _ _ L p F1
  have nL := TL.not hL
  simp only [opObj, arObj] at B1 B2 s1 hc F1
  simp only [opV, pv] at hc ⊢
  skip
  obtain ⟨c0, c1, c2, c3, c4, c5, c6, cf⟩ := B1.cells7
  obtain ⟨d0, d1, df⟩ := B2.cells2
  go_enter Try.func31, Try.ntmps31
  go_wp2_with fail
  refine hc.mono ?_
  rintro e w2 ⟨rfl, o2, F2, S2⟩
  have C1 := B1.step S2 nL
  have C2 := B2.step S2 nL
  have S3 : Step (TL L) w o _ o2 := (s1.mono (J := TL L) fun _ h => h.elim).trans (S2.mono (J := TL L) fun k hk => Or.inl hk)
  obtain ⟨g0, g1, gf⟩ := C2.cells2
  have E := told_end hL F2 S3 (w.heap.size + 1) (.int .i64 0) (.int .i64 r) C2.2
  clear hc F F1 F2 S2 S3 B1 B2 C1 C2 s1 nL c0 c1 c2 c3 c4 c5 c6 cf d0 d1 df
  go_wp2
  exact bodyPost_ret (v := .agg #[.int .i64 0, .int .i64 r]) (by simp [results, Try.results31, go_sem, g0, g1]) rfl ⟨rfl, E⟩

set_option maxRecDepth 100000 in
set_option maxHeartbeats 1000000 in
theorem told6_true {room : Nat} {s t : Sta} (q : OpR) (r : Int) (hk : q.kd = 6) (h : Acts room s 18 (fun p => #[pv p, .int .i64 q.a]) (.int .i64 r) t) : Told room s q true 0 r t := by
  obtain ⟨kd, qa, qb, qv, qc, qf, qo⟩ := q
  simp only at hk h
  subst hk
  intro w o L p hL F
  obtain ⟨B1, B2, s1⟩ := told_boxes w o ⟨6, qa, qb, qv, qc, qf, qo⟩
  have F1 := F.quiet s1
  have hc := h _ _ L p F1
  have nL := TL.not hL
  simp only [opObj, arObj] at B1 B2 s1 hc F1
  simp only [opV, pv] at hc ⊢
  skip
  obtain ⟨c0, c1, c2, c3, c4, c5, c6, cf⟩ := B1.cells7
  obtain ⟨d0, d1, df⟩ := B2.cells2
  go_enter Try.func31, Try.ntmps31
  go_wp2_with fail
  refine hc.mono ?_
  rintro e w2 ⟨rfl, o2, F2, S2⟩
  have C1 := B1.step S2 nL
  have C2 := B2.step S2 nL
  have S3 : Step (TL L) w o _ o2 := (s1.mono (J := TL L) fun _ h => h.elim).trans (S2.mono (J := TL L) fun k hk => Or.inl hk)
  obtain ⟨g0, g1, gf⟩ := C2.cells2
  have E := told_end hL F2 S3 (w.heap.size + 1) (.int .i64 0) (.int .i64 r) C2.2
  clear hc F F1 F2 S2 S3 B1 B2 C1 C2 s1 nL c0 c1 c2 c3 c4 c5 c6 cf d0 d1 df
  go_wp2
  exact bodyPost_ret (v := .agg #[.int .i64 0, .int .i64 r]) (by simp [results, Try.results31, go_sem, g0, g1]) rfl ⟨rfl, E⟩

set_option maxRecDepth 100000 in
set_option maxHeartbeats 1000000 in
theorem toldNo_false {room : Nat} {s : Sta} (q : OpR) (hk : q.kd ≠ 3 ∧ q.kd ≠ 7 ∧ q.kd ≠ 8 ∧ q.kd ≠ 9 ∧ q.kd ≠ 10 ∧ q.kd ≠ 11) : Told room s q false 0 0 s := by
  intro w o L p hL F
  have k3 : (q.kd == 3) = false := by simp only [beq_eq_false_iff_ne, ne_eq]; omega
  have k7 : (q.kd == 7) = false := by simp only [beq_eq_false_iff_ne, ne_eq]; omega
  have k8 : (q.kd == 8) = false := by simp only [beq_eq_false_iff_ne, ne_eq]; omega
  have k9 : (q.kd == 9) = false := by simp only [beq_eq_false_iff_ne, ne_eq]; omega
  have k10 : (q.kd == 10) = false := by simp only [beq_eq_false_iff_ne, ne_eq]; omega
  have k11 : (q.kd == 11) = false := by simp only [beq_eq_false_iff_ne, ne_eq]; omega
  obtain ⟨B1, B2, s1⟩ := told_boxes w o q
  have F1 := F.quiet s1
  simp only [opObj, arObj] at B1 B2 s1 F1
  simp only [opV, pv]
  have S3 : Step (TL L) w o _ _ := s1.mono (J := TL L) fun _ h => h.elim
  have E : ∃ o', FoS _ o' L p room s ∧ Step (TL L) w o _ o' := ⟨_, F1, S3⟩
  clear B1 B2 F F1 S3 s1
  go_enter Try.func31, Try.ntmps31
  go_wp2
  exact bodyPost_ret (v := .agg #[.int .i64 0, .int .i64 0]) (by simp [results, Try.results31, go_sem]) rfl ⟨rfl, E⟩

set_option maxRecDepth 100000 in
set_option maxHeartbeats 1000000 in
theorem toldNo_true {room : Nat} {s : Sta} (q : OpR) (hk : q.kd ≠ 3 ∧ q.kd ≠ 7 ∧ q.kd ≠ 8 ∧ q.kd ≠ 9 ∧ q.kd ≠ 10 ∧ q.kd ≠ 11 ∧ q.kd ≠ 1 ∧ q.kd ≠ 2 ∧ q.kd ≠ 4 ∧ q.kd ≠ 5 ∧ q.kd ≠ 6) : Told room s q true 0 0 s := by
  intro w o L p hL F
  have k3 : (q.kd == 3) = false := by simp only [beq_eq_false_iff_ne, ne_eq]; omega
  have k7 : (q.kd == 7) = false := by simp only [beq_eq_false_iff_ne, ne_eq]; omega
  have k8 : (q.kd == 8) = false := by simp only [beq_eq_false_iff_ne, ne_eq]; omega
  have k9 : (q.kd == 9) = false := by simp only [beq_eq_false_iff_ne, ne_eq]; omega
  have k10 : (q.kd == 10) = false := by simp only [beq_eq_false_iff_ne, ne_eq]; omega
  have k11 : (q.kd == 11) = false := by simp only [beq_eq_false_iff_ne, ne_eq]; omega
  have k1 : (q.kd == 1) = false := by simp only [beq_eq_false_iff_ne, ne_eq]; omega
  have k2 : (q.kd == 2) = false := by simp only [beq_eq_false_iff_ne, ne_eq]; omega
  have k4 : (q.kd == 4) = false := by simp only [beq_eq_false_iff_ne, ne_eq]; omega
  have k5 : (q.kd == 5) = false := by simp only [beq_eq_false_iff_ne, ne_eq]; omega
  have k6 : (q.kd == 6) = false := by simp only [beq_eq_false_iff_ne, ne_eq]; omega
  obtain ⟨B1, B2, s1⟩ := told_boxes w o q
  have F1 := F.quiet s1
  simp only [opObj, arObj] at B1 B2 s1 F1
  simp only [opV, pv]
  have S3 : Step (TL L) w o _ _ := s1.mono (J := TL L) fun _ h => h.elim
  have E : ∃ o', FoS _ o' L p room s ∧ Step (TL L) w o _ o' := ⟨_, F1, S3⟩
  clear B1 B2 F F1 S3 s1
  go_enter Try.func31, Try.ntmps31
  go_wp2
  exact bodyPost_ret (v := .agg #[.int .i64 0, .int .i64 0]) (by simp [results, Try.results31, go_sem]) rfl ⟨rfl, E⟩

end Go.Proofs.Ythnocaiehhcdeaa
