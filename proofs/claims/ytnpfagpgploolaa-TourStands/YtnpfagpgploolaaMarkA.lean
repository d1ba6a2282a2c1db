/- Tours in plain terms: marks of vertices and edges, what all come to, the first marked edge. -/
import Derived.Test.YtnpfagpgploolaaTt2
namespace Go.Proofs.Ytnpfagpgploolaa
open Go.ChangeShapes Go.WideShapes Go.ChangeAt Go.RowKit Go.Maps
set_option linter.unusedVariables false

set_option maxRecDepth 100000 in
theorem flag_in (w : World) (o : Nat → Nat) (L p n N : Nat) (free : List Nat) (it : Nat → It) (S : Nat → List Nat) (g : Nat → Nat × Nat) (f : Nat → Nat → Nat) (ms : Nat) (sts : List Nat) (a m : Nat) (on : Bool) (T : Tm w o L p n N free it S g f ms sts) (hl : Live N free a) (hm : m = 1 ∨ m = 2) (hf : (it a).f = 0 ∨ (it a).f = m) (hmay : (it a).may) :
    Calls Try.prog 52 #[.pointer (some ⟨p, 0, none⟩), .int .i64 a, .int .i64 m, .bool on] w fun e w' => e = .returned (.tuple #[]) ∧ ∃ o', Tm w' o' L p n N free (upd it a ⟨(it a).v, (it a).c, if on then m else 0⟩) S g f ms sts ∧ Step (FL L) w o w' o' := by
  obtain ⟨pf, bs, cap, bm, bg, h1, h2, h3, h4, h5⟩ := T
  obtain ⟨c0, c1, c2, c3⟩ := h1.cells
  have hget := getInF w o L pf _ N free it S a h2 hl
  have HSET : Hid (∀ wx ox (x : It), x.may → Fo wx ox L pf (n + 2 * (n - 1)) N free it S → Calls Try.prog 51 #[.pointer (some ⟨pf, 0, none⟩), .int .i64 a, itemV x] wx fun e w' => e = .returned (.int .i64 0) ∧ ∃ o', Fo w' o' L pf (n + 2 * (n - 1)) N free (upd it a x) S ∧ Step (FL L) wx ox w' o') := fun wx ox x hx Fx => setInF wx ox L pf _ N free it S a x Fx hl hx
  have HC : Hid (∀ wx ox, Step (FL L) w o wx ox → wx.cell? ⟨p, 0, none⟩ = some (.pointer (some ⟨pf, 0, none⟩))) := fun wx ox s => (h1.step s (fun h => by have := h.2; omega)).cells.1
  have hA : bits BinOp.andNot IntKind.i64 ((it a).f : Nat) (m : Nat) = 0 := by
    rcases hm with rfl | rfl <;> rcases hf with e | e <;> rw [e] <;> decide
  have hO : bits BinOp.or IntKind.i64 0 (m : Nat) = (m : Nat) := by
    rcases hm with rfl | rfl <;> decide
  have hm255 : m ≤ 255 := by omega
  obtain ⟨y, hy⟩ : ∃ y, y = it a := ⟨_, rfl⟩
  rw [← hy] at hget hf hmay hA ⊢
  obtain ⟨yv, yc, yf⟩ := y
  have hmay0 : It.may ⟨yv, yc, 0⟩ := ⟨hmay.1, hmay.2.1, by show 0 ≤ 255; omega⟩
  have hmay1 : It.may ⟨yv, yc, m⟩ := ⟨hmay.1, hmay.2.1, hm255⟩
  unfold itemV at hget
  simp only at hget hf hA ⊢
  clear hf hmay hm
  cases on
  all_goals
    go_enter Try.func52, Try.ntmps52
    go_wp2_with fail
    refine hget.mono ?_
    rintro e w1 ⟨rfl, s1⟩
    clear hget
    go_wp2_with fail
  · have n2 := newStep (fun _ => False) w1 o (L + 1108) (.cells #[.int .i64 yv, .bool yc, .int .i64 0] 90)
    have B2 : Blk (w1.alloc (.cells #[.int .i64 yv, .bool yc, .int .i64 0] 90)) (newLab w1 o (L + 1108)) (L + 1108) w1.heap.size (.cells #[.int .i64 yv, .bool yc, .int .i64 0] 90 (0, 0)) := ⟨heap_alloc_new w1 _, newLab_new (Nat.le_refl _)⟩
    have s2 : Step (fun _ => False) w o (w1.alloc (.cells #[.int .i64 yv, .bool yc, .int .i64 0] 90)).drew (newLab w1 o (L + 1108)) := (s1.trans n2).drew
    have F2 := h2.quiet s2
    have hset := HSET.out _ _ ⟨yv, yc, 0⟩ hmay0 F2
    have K : ∀ wx ox, Step (FL L) (w1.alloc (.cells #[.int .i64 yv, .bool yc, .int .i64 0] 90)) (newLab w1 o (L + 1108)) wx ox → wx.cell? ⟨p, 0, none⟩ = some (.pointer (some ⟨pf, 0, none⟩)) ∧ wx.cell? ⟨w1.heap.size, 0, none⟩ = some (.int .i64 yv) ∧ wx.cell? ⟨w1.heap.size, 1, none⟩ = some (.bool yc) ∧ wx.cell? ⟨w1.heap.size, 2, none⟩ = some (.int .i64 0) := fun wx ox s => by
      refine ⟨HC.out _ _ (((s1.trans n2).mono fun _ h => h.elim).trans s), ?_⟩
      have hb := (B2.step s (fun h => by have := h.2; omega)).1
      refine ⟨?_, ?_, ?_⟩ <;> simp [cell_of_row wx w1.heap.size _ _ 90 (0, 0) hb]
    have HK : Hid (∀ wx ox, Step (FL L) (w1.alloc (.cells #[.int .i64 yv, .bool yc, .int .i64 0] 90)) (newLab w1 o (L + 1108)) wx ox → wx.cell? ⟨p, 0, none⟩ = some (.pointer (some ⟨pf, 0, none⟩)) ∧ wx.cell? ⟨w1.heap.size, 0, none⟩ = some (.int .i64 yv) ∧ wx.cell? ⟨w1.heap.size, 1, none⟩ = some (.bool yc) ∧ wx.cell? ⟨w1.heap.size, 2, none⟩ = some (.int .i64 0)) := K
    have HSD : Hid (Step (FL L) (w1.alloc (.cells #[.int .i64 yv, .bool yc, .int .i64 0] 90)) (newLab w1 o (L + 1108)) (w1.alloc (.cells #[.int .i64 yv, .bool yc, .int .i64 0] 90)).drew (newLab w1 o (L + 1108))) := (Step.refl _ _ _).drew
    have k0 := K _ _ HSD.out
    unfold itemV at hset
    have HE : Hid (∀ wx ox, Step (FL L) (w1.alloc (.cells #[.int .i64 yv, .bool yc, .int .i64 0] 90)).drew (newLab w1 o (L + 1108)) wx ox → Fo wx ox L pf (n + 2 * (n - 1)) N free (upd it a ⟨yv, yc, 0⟩) S → Tm wx ox L p n N free (upd it a ⟨yv, yc, 0⟩) S g f ms sts ∧ Step (FL L) w o wx ox) := fun wx ox s Fx => by
      have s3 := (s2.mono (J := FL L) fun _ h => h.elim).trans s
      exact ⟨Tm.fo h1 h3 h4 h5 s3 Fx, s3⟩
    clear K n2 B2 s2 F2 h1 h2 h3 h4 h5 s1 c0 c1 c2 c3
    go_region_held (fun wx => wx.cell? ⟨p, 0, none⟩ = some (.pointer (some ⟨pf, 0, none⟩)) ∧ wx.cell? ⟨w1.heap.size, 0, none⟩ = some (.int .i64 yv) ∧ wx.cell? ⟨w1.heap.size, 1, none⟩ = some (.bool yc) ∧ wx.cell? ⟨w1.heap.size, 2, none⟩ = some (.int .i64 0)) (first | (with_reducible exact k1) | (with_reducible exact k0)) ((go_at_call 51; refine hset.mono ?_; rintro e w3 ⟨rfl, o3, F3, s3⟩; have k1 := HK.out _ _ (HSD.out.trans s3); obtain ⟨T3, S3⟩ := HE.out _ _ s3 F3))
    all_goals
      clear hset F3 s3 HE HK
      go_wp2
      go_end0
      exact ⟨rfl, o3, T3, S3⟩
  · have n2 := newStep (fun _ => False) w1 o (L + 1108) (.cells #[.int .i64 yv, .bool yc, .int .i64 m] 90)
    have B2 : Blk (w1.alloc (.cells #[.int .i64 yv, .bool yc, .int .i64 m] 90)) (newLab w1 o (L + 1108)) (L + 1108) w1.heap.size (.cells #[.int .i64 yv, .bool yc, .int .i64 m] 90 (0, 0)) := ⟨heap_alloc_new w1 _, newLab_new (Nat.le_refl _)⟩
    have s2 : Step (fun _ => False) w o (w1.alloc (.cells #[.int .i64 yv, .bool yc, .int .i64 m] 90)).drew (newLab w1 o (L + 1108)) := (s1.trans n2).drew
    have F2 := h2.quiet s2
    have hset := HSET.out _ _ ⟨yv, yc, m⟩ hmay1 F2
    have K : ∀ wx ox, Step (FL L) (w1.alloc (.cells #[.int .i64 yv, .bool yc, .int .i64 m] 90)) (newLab w1 o (L + 1108)) wx ox → wx.cell? ⟨p, 0, none⟩ = some (.pointer (some ⟨pf, 0, none⟩)) ∧ wx.cell? ⟨w1.heap.size, 0, none⟩ = some (.int .i64 yv) ∧ wx.cell? ⟨w1.heap.size, 1, none⟩ = some (.bool yc) ∧ wx.cell? ⟨w1.heap.size, 2, none⟩ = some (.int .i64 m) := fun wx ox s => by
      refine ⟨HC.out _ _ (((s1.trans n2).mono fun _ h => h.elim).trans s), ?_⟩
      have hb := (B2.step s (fun h => by have := h.2; omega)).1
      refine ⟨?_, ?_, ?_⟩ <;> simp [cell_of_row wx w1.heap.size _ _ 90 (0, 0) hb]
    have HK : Hid (∀ wx ox, Step (FL L) (w1.alloc (.cells #[.int .i64 yv, .bool yc, .int .i64 m] 90)) (newLab w1 o (L + 1108)) wx ox → wx.cell? ⟨p, 0, none⟩ = some (.pointer (some ⟨pf, 0, none⟩)) ∧ wx.cell? ⟨w1.heap.size, 0, none⟩ = some (.int .i64 yv) ∧ wx.cell? ⟨w1.heap.size, 1, none⟩ = some (.bool yc) ∧ wx.cell? ⟨w1.heap.size, 2, none⟩ = some (.int .i64 m)) := K
    have HSD : Hid (Step (FL L) (w1.alloc (.cells #[.int .i64 yv, .bool yc, .int .i64 m] 90)) (newLab w1 o (L + 1108)) (w1.alloc (.cells #[.int .i64 yv, .bool yc, .int .i64 m] 90)).drew (newLab w1 o (L + 1108))) := (Step.refl _ _ _).drew
    have k0 := K _ _ HSD.out
    unfold itemV at hset
    have HE : Hid (∀ wx ox, Step (FL L) (w1.alloc (.cells #[.int .i64 yv, .bool yc, .int .i64 m] 90)).drew (newLab w1 o (L + 1108)) wx ox → Fo wx ox L pf (n + 2 * (n - 1)) N free (upd it a ⟨yv, yc, m⟩) S → Tm wx ox L p n N free (upd it a ⟨yv, yc, m⟩) S g f ms sts ∧ Step (FL L) w o wx ox) := fun wx ox s Fx => by
      have s3 := (s2.mono (J := FL L) fun _ h => h.elim).trans s
      exact ⟨Tm.fo h1 h3 h4 h5 s3 Fx, s3⟩
    clear K n2 B2 s2 F2 h1 h2 h3 h4 h5 s1 c0 c1 c2 c3
    go_region_held (fun wx => wx.cell? ⟨p, 0, none⟩ = some (.pointer (some ⟨pf, 0, none⟩)) ∧ wx.cell? ⟨w1.heap.size, 0, none⟩ = some (.int .i64 yv) ∧ wx.cell? ⟨w1.heap.size, 1, none⟩ = some (.bool yc) ∧ wx.cell? ⟨w1.heap.size, 2, none⟩ = some (.int .i64 m)) (first | (with_reducible exact k1) | (with_reducible exact k0)) ((go_at_call 51; refine hset.mono ?_; rintro e w3 ⟨rfl, o3, F3, s3⟩; have k1 := HK.out _ _ (HSD.out.trans s3); obtain ⟨T3, S3⟩ := HE.out _ _ s3 F3))
    all_goals
      clear hset F3 s3 HE HK
      go_wp2
      go_end0
      exact ⟨rfl, o3, T3, S3⟩

end Go.Proofs.Ytnpfagpgploolaa
namespace Go.Proofs.Ytnpfagpgploolaa
open Go.ChangeShapes Go.WideShapes Go.ChangeAt Go.RowKit Go.Maps
set_option linter.unusedVariables false

theorem La.set {n N : Nat} {free : List Nat} {g : Nat → Nat × Nat} {f : Nat → Nat → Nat} {ms : Nat} {it : Nat → It} {D : Nat × Nat → It} (h : La n N free g f ms it D) {a : Nat} (ha : Live N free a) (x : It) : La n N free g f ms (upd it a x) (fun s => if s = g a then x else D s) :=
  ⟨h.stop, h.rng, h.only, h.back, h.edge, fun k hk => by
    by_cases e : k = a
    · subst e; rw [upd_same, if_pos rfl]
    · rw [upd_other _ _ e, if_neg (fun e2 => e (h.inj hk ha e2)), h.item k hk], h.many⟩
/-- Items by values and marks. -/
def Dm (val : Nat → Int) (mk : Nat × Nat → Bool) : Nat × Nat → It := fun s => ⟨if s.1 = s.2 then val s.1 else 0, decide (s.1 = s.2), if mk s then (if s.1 = s.2 then 1 else 2) else 0⟩
/-- Marks turned at one step. -/
def updM (mk : Nat × Nat → Bool) (s : Nat × Nat) (b : Bool) : Nat × Nat → Bool := fun t => if t = s then b else mk t
theorem Dm_mark (val : Nat → Int) (mk : Nat × Nat → Bool) (s : Nat × Nat) (on : Bool) : (fun t => if t = s then (⟨(Dm val mk s).v, (Dm val mk s).c, if on then (if s.1 = s.2 then 1 else 2) else 0⟩ : It) else Dm val mk t) = Dm val (updM mk s on) := by
  funext t
  by_cases e : t = s
  · subst e; simp [Dm, updM]
  · simp [Dm, updM, e]
theorem Dm_value (val : Nat → Int) (mk : Nat × Nat → Bool) (v : Nat) (x : Int) : (fun t => if t = (v, v) then (⟨x, (Dm val mk (v, v)).c, (Dm val mk (v, v)).f⟩ : It) else Dm val mk t) = Dm (fun w => if w = v then x else val w) mk := by
  funext t
  by_cases e : t = (v, v)
  · subst e; simp [Dm]
  · obtain ⟨a, b⟩ := t
    simp only [Dm, e, if_false]
    by_cases e2 : a = b
    · subst e2
      have : a ≠ v := fun h => e (by rw [h])
      simp [this]
    · simp [e2]
theorem Dm_link (val : Nat → Int) (mk : Nat × Nat → Bool) (u v : Nat) (h : u ≠ v) : (fun s => if s = (u, v) ∨ s = (v, u) then (⟨0, false, 0⟩ : It) else Dm val mk s) = Dm val (updM (updM mk (u, v) false) (v, u) false) := by
  funext s
  by_cases e : s = (v, u)
  · subst e; simp [Dm, updM, Ne.symm h]
  · by_cases e2 : s = (u, v)
    · subst e2; simp [Dm, updM, h]
    · simp [Dm, updM, e, e2]
theorem Dm_new : (fun s : Nat × Nat => (⟨0, decide (s.1 = s.2), 0⟩ : It)) = Dm (fun _ => 0) (fun _ => false) := by
  funext s; simp [Dm]
theorem Tm.may {w : World} {o : Nat → Nat} {L p n N : Nat} {free : List Nat} {it : Nat → It} {S : Nat → List Nat} {g : Nat → Nat × Nat} {f : Nat → Nat → Nat} {ms : Nat} {sts : List Nat} (h : Tm w o L p n N free it S g f ms sts) {k : Nat} (hk : Live N free k) : (it k).may := by
  obtain ⟨pf, bs, cap, bm, bg, h1, h2, h3, h4, h5⟩ := h
  exact h2.may hk

set_option maxRecDepth 100000 in
theorem mark_t (w : World) (o : Nat → Nat) (L p n : Nat) (Y : Nat → List (Nat × Nat)) (val : Nat → Int) (mk : Nat × Nat → Bool) (v : Nat) (on : Bool) (T : Tt w o L p n Y (Dm val mk)) (hv : v < n) :
    Calls Try.prog 18 #[.pointer (some ⟨p, 0, none⟩), .int .i64 v, .bool on] w fun e w' => e = .returned (.int .i64 0) ∧ ∃ o', Tt w' o' L p n Y (Dm val (updM mk (v, v) on)) ∧ Step (TL L) w o w' o' := by
  obtain ⟨N, free, it, S, g, f, ms, T, la, t, E, hn⟩ := T
  have lv := (la.stop v hv).1
  have hit := la.item _ lv
  rw [(la.stop v hv).2] at hit
  have hmay := T.may lv
  have HF : Hid (∀ wx ox, Tm wx ox L p n N free it S g f ms (stsOf n) → Calls Try.prog 52 #[.pointer (some ⟨p, 0, none⟩), .int .i64 (v + 1 : Nat), .int .i64 1, .bool on] wx fun e w' => e = .returned (.tuple #[]) ∧ ∃ o', Tt w' o' L p n Y (Dm val (updM mk (v, v) on)) ∧ Step (TL L) wx ox w' o') := fun wx ox Tx => by
    refine (flag_in wx ox L p n N free it S g f ms (stsOf n) (v + 1) 1 on Tx lv (.inl rfl) (by rw [hit]; by_cases hb : mk (v, v) <;> simp [Dm, hb]) hmay).mono ?_
    rintro e w' ⟨rfl, o', T', s⟩
    refine ⟨rfl, o', ⟨N, free, _, S, g, f, ms, T', ?_, t, E, hn⟩, s.tl⟩
    have := la.set lv ⟨(it (v + 1)).v, (it (v + 1)).c, if on then 1 else 0⟩
    rw [hit, (la.stop v hv).2] at this
    rw [hit, ← Dm_mark val mk (v, v) on]
    simpa using this
  obtain ⟨pf, bs, cap, ⟨hcap, hmx⟩, F, HC, hrest⟩ := T.open (by omega)
  have T0 := T
  obtain ⟨pf', bs', cap', bm, bg, h1, h2, h3, h4, h5⟩ := T
  have hv1 := has_any w o L p n pf' bs' cap' bm bg v h1
  rw [decide_eq_true (by omega)] at hv1
  obtain ⟨⟨c0, c1⟩, cv⟩ := HC w.drew o ((Step.refl _ _ _).drew)
  obtain ⟨⟨d0, d1⟩, dv⟩ := HC w o (Step.refl _ _ _)
  have cv := cv v hv
  have dv := dv v hv
  have hvn : (v : Int) < (n : Int) := by omega
  have hfl := HF.out w o T0
  have hfl2 := HF.out w.drew o (T0.quiet ((Step.refl _ _ _).drew))
  clear h1 h2 h3 h4 h5 HC T0 hit hmay F hrest la t E
  go_enter Try.func18, Try.ntmps18
  go_wp2_with fail
  refine hv1.mono ?_
  rintro e w' ⟨rfl, hw'⟩
  obtain rfl : w = w' := hw'.symm
  clear hv1
  have ecast : (((v + 1 : Nat)) : Int) = (v : Int) + 1 := by omega
  rw [ecast] at hfl
  clear hfl2 HF c0 c1 cv
  go_wp2_with fail
  refine hfl.mono ?_
  rintro e w2 ⟨rfl, o2, T2, s2⟩
  clear hfl
  go_wp2
  go_ret
  exact ⟨rfl, o2, T2, s2⟩

theorem Step.setNew {I : Nat → Prop} {w w3 : World} {o o3 : Nat → Nat} (s : Step I w o w3 o3) {b : Nat} (i : Nat) (v : Value) (hb : w.heap.size ≤ b) : Step I w o (w3.setCell ⟨b, i, none⟩ v) o3 :=
  ⟨s.os, s.tape, s.output, by simpa using s.size, s.lab, fun k hk hn => by
    have h1 := (Step.refl (fun j => j = 1) w3 (fun j => if j = b then 1 else 0)).setCell ⟨b, i, none⟩ v (by simp)
    rw [h1.block k (Nat.lt_of_lt_of_le hk s.size) (by simp; omega)]
    exact s.block k hk hn⟩
theorem five_keep (w : World) (b p bs pf n cap v : Nat) (v0 v1 v2 v3 v4 : Value) (hp : p ≠ b) (hb : bs ≠ b) (h : w.cell? ⟨p, 0, none⟩ = some (.pointer (some ⟨pf, 0, none⟩)) ∧ w.cell? ⟨p, 1, none⟩ = some (.slice (some ⟨bs, 0, none⟩) n cap) ∧ w.cell? ⟨bs, v, none⟩ = some (.int .i64 ((v : Int) + 1))) :
    (((((w.setCell ⟨b, 0, none⟩ v0).setCell ⟨b, 1, none⟩ v1).setCell ⟨b, 2, none⟩ v2).setCell ⟨b, 3, none⟩ v3).setCell ⟨b, 4, none⟩ v4).cell? ⟨p, 0, none⟩ = some (.pointer (some ⟨pf, 0, none⟩)) ∧ (((((w.setCell ⟨b, 0, none⟩ v0).setCell ⟨b, 1, none⟩ v1).setCell ⟨b, 2, none⟩ v2).setCell ⟨b, 3, none⟩ v3).setCell ⟨b, 4, none⟩ v4).cell? ⟨p, 1, none⟩ = some (.slice (some ⟨bs, 0, none⟩) n cap) ∧ (((((w.setCell ⟨b, 0, none⟩ v0).setCell ⟨b, 1, none⟩ v1).setCell ⟨b, 2, none⟩ v2).setCell ⟨b, 3, none⟩ v3).setCell ⟨b, 4, none⟩ v4).cell? ⟨bs, v, none⟩ = some (.int .i64 ((v : Int) + 1)) := by
  have key : ∀ a : Addr, a.block ≠ b → (((((w.setCell ⟨b, 0, none⟩ v0).setCell ⟨b, 1, none⟩ v1).setCell ⟨b, 2, none⟩ v2).setCell ⟨b, 3, none⟩ v3).setCell ⟨b, 4, none⟩ v4).cell? a = w.cell? a := fun a ha => by
    have ne : ∀ i, (⟨b, i, none⟩ : Addr) ≠ a := fun i e => ha (by rw [← e])
    rw [World.cell?_setCell_other _ _ _ _ (ne 4), World.cell?_setCell_other _ _ _ _ (ne 3), World.cell?_setCell_other _ _ _ _ (ne 2), World.cell?_setCell_other _ _ _ _ (ne 1), World.cell?_setCell_other _ _ _ _ (ne 0)]
  exact ⟨(key _ hp).trans h.1, (key _ hp).trans h.2.1, (key _ hb).trans h.2.2⟩
theorem sum_t (w : World) (o : Nat → Nat) (L p n : Nat) (Y : Nat → List (Nat × Nat)) (D : Nat × Nat → It) (v : Nat) (T : Tt w o L p n Y D) (hv : v < n) :
    Calls Try.prog 25 #[.pointer (some ⟨p, 0, none⟩), .int .i64 v] w fun e w' => e = .returned (.tuple #[aggV (agg ((Y v).map D)), .int .i64 0]) ∧ ∃ o', Tt w' o' L p n Y D ∧ Step (TL L) w o w' o' := by
  have n1 := newStep (fun _ => False) w o (L + 1110) (.cells #[.int .i64 0, .int .i64 0, .int .i64 0, .int .i64 0, .int .i64 0] 62)
  have B1 : Blk (w.alloc (.cells #[.int .i64 0, .int .i64 0, .int .i64 0, .int .i64 0, .int .i64 0] 62)) (newLab w o (L + 1110)) (L + 1110) w.heap.size (.cells #[.int .i64 0, .int .i64 0, .int .i64 0, .int .i64 0, .int .i64 0] 62 (0, 0)) := ⟨heap_alloc_new w _, newLab_new (Nat.le_refl _)⟩
  have T := T.quiet n1
  obtain ⟨w1, hw1⟩ : ∃ w1, w1 = w.alloc (.cells #[.int .i64 0, .int .i64 0, .int .i64 0, .int .i64 0, .int .i64 0] 62) := ⟨_, rfl⟩
  obtain ⟨o1, ho1⟩ : ∃ o1, o1 = newLab w o (L + 1110) := ⟨_, rfl⟩
  rw [← hw1, ← ho1] at n1 B1 T
  obtain ⟨N, free, it, S, g, f, ms, T, la, t, E, hn⟩ := T
  have lv := (la.stop v hv).1
  have q := T.sq
  have emap : (S (v + 1)).map it = (Y v).map D := by
    rw [← t.at la hv, List.map_map]
    exact List.map_congr_left (fun k hk => la.item k (q.mem _ lv k hk).1)
  have T0 := T
  obtain ⟨pf, bs, cap, ⟨hcap, hmx⟩, F, HC, hrest⟩ := T.open (by omega)
  obtain ⟨pf', bs', cap', bm, bg, h1, h2, h3, h4, h5⟩ := T
  have hv1 := has_any w1 o1 L p n pf' bs' cap' bm bg v h1
  rw [decide_eq_true (by omega)] at hv1
  obtain ⟨⟨d0, d1⟩, dv⟩ := HC w1 o1 (Step.refl _ _ _)
  obtain rfl : pf' = pf := by have := h1.cells.1; rw [d0] at this; simpa using this.symm
  have dv := dv v hv
  have hvn : (v : Int) < (n : Int) := by omega
  have hsum := sumInF w1.drew o1 L pf' _ N free it S (v + 1) (h2.quiet ((Step.refl _ _ _).drew)) lv
  rw [emap] at hsum
  have ecast : (((v + 1 : Nat)) : Int) = (v : Int) + 1 := by omega
  rw [ecast] at hsum
  have HE : Hid (∀ wx ox, Step (FL L) w1 o1 wx ox → Fo wx ox L pf' (n + 2 * (n - 1)) N free it S → Tt wx ox L p n Y D) := fun wx ox s Fx => ⟨N, free, it, S, g, f, ms, Tm.fo h1 h3 h4 h5 s Fx, la, t, E, hn⟩
  have HCK : Hid (∀ wx ox, Step (FL L) w1 o1 wx ox → wx.cell? ⟨p, 0, none⟩ = some (.pointer (some ⟨pf', 0, none⟩)) ∧ wx.cell? ⟨p, 1, none⟩ = some (.slice (some ⟨bs, 0, none⟩) n cap) ∧ wx.cell? ⟨bs, v, none⟩ = some (.int .i64 ((v : Int) + 1))) := fun wx ox s => by
    obtain ⟨⟨c0, c1⟩, cv⟩ := HC wx ox s
    have cv := cv v hv
    rw [ecast] at cv
    exact ⟨c0, c1, cv⟩
  have hne : p ≠ w.heap.size ∧ bs ≠ w.heap.size := by
    have e1 := B1.2
    refine ⟨fun e => ?_, fun e => ?_⟩
    · have := h1.2; rw [e, e1] at this; omega
    · obtain ⟨gq, cq, hq1, hq2, _⟩ := h3.pos (by omega)
      simp only [Value.slice.injEq, Option.some.injEq, Addr.mk.injEq, and_true, true_and] at hq1
      have e3 := h1.cells.2.1
      rw [d1] at e3
      simp only [Option.some.injEq, Value.slice.injEq, Addr.mk.injEq, and_true, true_and] at e3
      rw [← hq1.1, ← e3.1, e, e1] at hq2; omega
  obtain ⟨G, hG⟩ : ∃ G, G = agg ((Y v).map D) := ⟨_, rfl⟩
  rw [← hG] at hsum ⊢
  unfold aggV at hsum ⊢
  clear h1 h2 h3 h4 h5 HC T0 F hrest la t E emap hG ecast
  go_enter Try.func25, Try.ntmps25
  go_wp2_with fail
  rw [← hw1]
  clear hw1
  refine hv1.mono ?_
  rintro e w' ⟨rfl, hw'⟩
  obtain rfl : w1 = w' := hw'.symm
  clear hv1
  obtain ⟨hpb, hbb⟩ := hne
  have sdd : Step (FL L) w1 o1 w1.drew o1 := (Step.refl _ _ _).drew
  have k0 := HCK.out _ _ sdd
  go_wp2_with fail
  go_region_held (fun wx => wx.cell? ⟨p, 0, none⟩ = some (.pointer (some ⟨pf', 0, none⟩)) ∧ wx.cell? ⟨p, 1, none⟩ = some (.slice (some ⟨bs, 0, none⟩) n cap) ∧ wx.cell? ⟨bs, v, none⟩ = some (.int .i64 ((v : Int) + 1))) (first | (with_reducible exact k2) | (with_reducible exact k1) | (with_reducible exact k0)) ((go_at_call 56; refine hsum.mono ?_; rintro e w3 ⟨rfl, o3, F3, s3⟩; have k1 := HCK.out _ _ (sdd.trans s3); have k2 := five_keep w3 w.heap.size p bs pf' n cap v (.int .i64 G.count) (.int .i64 G.sum) (.int .i64 G.least) (.int .i64 G.most) (.int .i64 G.flags) hpb hbb k1; have R := HE.out _ _ (sdd.trans s3) F3; obtain ⟨x0, x1, x2, x3, x4, xf⟩ := (B1.step (sdd.trans s3) (fun h => by have := h.2; omega)).cells5))
  all_goals
    have st : Step (TL L) w o w3 o3 := ((n1.mono fun _ h => h.elim).trans ((sdd.trans s3).mono fun k hk => hk.tl))
    have S9 := ((((st.setNew 0 (.int .i64 G.count) (Nat.le_refl _)).setNew 1 (.int .i64 G.sum) (Nat.le_refl _)).setNew 2 (.int .i64 G.least) (Nat.le_refl _)).setNew 3 (.int .i64 G.most) (Nat.le_refl _)).setNew 4 (.int .i64 G.flags) (Nat.le_refl _)
    have hlab := (B1.step (sdd.trans s3) (fun h => by have := h.2; omega)).2
    have f9 : Step (fun k => k = L + 1110) w3 o3 (((((w3.setCell ⟨w.heap.size, 0, none⟩ (.int .i64 G.count)).setCell ⟨w.heap.size, 1, none⟩ (.int .i64 G.sum)).setCell ⟨w.heap.size, 2, none⟩ (.int .i64 G.least)).setCell ⟨w.heap.size, 3, none⟩ (.int .i64 G.most)).setCell ⟨w.heap.size, 4, none⟩ (.int .i64 G.flags)) o3 := (((((Step.refl _ _ _).setCell _ _ hlab).setCell _ _ hlab).setCell _ _ hlab).setCell _ _ hlab).setCell _ _ hlab
    have R9 := R.step f9 (fun k hk e => by have := hk.2; omega)
    clear hsum F3 k1 k2 st f9 R hlab
    go_wp2
    exact bodyPost_ret (v := .tuple #[aggV G, .int .i64 0]) (by simp [results, Try.results25, go_sem, aggV, x0, x1, x2, x3, x4]) rfl ⟨rfl, _, R9, S9⟩

end Go.Proofs.Ytnpfagpgploolaa
namespace Go.Proofs.Ytnpfagpgploolaa
open Go.ChangeShapes Go.WideShapes Go.ChangeAt Go.RowKit Go.Maps
set_option linter.unusedVariables false

theorem markEdge_t (w : World) (o : Nat → Nat) (L p n : Nat) (Y : Nat → List (Nat × Nat)) (val : Nat → Int) (mk : Nat × Nat → Bool) (u v : Nat) (on : Bool) (T : Tt w o L p n Y (Dm val mk)) (hu : u < n) (hv : v < n) (huv : u ≠ v) (hs : (u, v) ∈ Y u) :
    Calls Try.prog 23 #[.pointer (some ⟨p, 0, none⟩), .int .i64 u, .int .i64 v, .bool on] w fun e w' => e = .returned (.int .i64 0) ∧ ∃ o', Tt w' o' L p n Y (Dm val (updM (updM mk (u, v) on) (v, u) on)) ∧ Step (TL L) w o w' o' := by
  obtain ⟨N, free, it, S, g, f, ms, T, la, t, E, hn⟩ := T
  have q := T.sq
  have hs2 : (v, u) ∈ Y v := by rw [(E.one u hu _ hs).2.2.2]; exact E.back u hu _ hs
  have f1 := (la.has t q hn.2 hu hv).2 ⟨huv, hs⟩
  have f2 := (la.has t q hn.2 hv hu).2 ⟨huv.symm, hs2⟩
  obtain ⟨_, l1, g1⟩ := la.edge u v (by omega) (by omega) f1
  obtain ⟨_, l2, g2⟩ := la.edge v u (by omega) (by omega) f2
  have hed := edge_in w o L p n N free it S g f ms u v T hn.2 hu hv f1
  obtain ⟨a, ha⟩ : ∃ a, a = f u v := ⟨_, rfl⟩
  obtain ⟨b, hb⟩ : ∃ b, b = f v u := ⟨_, rfl⟩
  rw [← ha] at l1 g1
  rw [← hb] at l2 g2
  rw [← ha, ← hb] at hed
  have hab : a ≠ b := fun e => by rw [e, g2] at g1; simp only [Prod.mk.injEq] at g1; omega
  have i1 := la.item a l1
  have i2 := la.item b l2
  rw [g1] at i1
  rw [g2] at i2
  have m1 := T.may l1
  have m2 := T.may l2
  obtain ⟨it1, hit1⟩ : ∃ it1, it1 = upd it a ⟨(it a).v, (it a).c, if on then 2 else 0⟩ := ⟨_, rfl⟩
  have eb : it1 b = it b := by rw [hit1, upd_other _ _ (Ne.symm hab)]
  have HF1 : Hid (∀ wx ox, Tm wx ox L p n N free it S g f ms (stsOf n) → Calls Try.prog 52 #[.pointer (some ⟨p, 0, none⟩), .int .i64 a, .int .i64 2, .bool on] wx fun e w' => e = .returned (.tuple #[]) ∧ ∃ o', Tm w' o' L p n N free it1 S g f ms (stsOf n) ∧ Step (FL L) wx ox w' o') := fun wx ox Tx => by
    rw [hit1]
    exact flag_in wx ox L p n N free it S g f ms (stsOf n) a 2 on Tx l1 (.inr rfl) (by rw [i1]; by_cases hb : mk (u, v) <;> simp [Dm, hb, huv]) m1
  have HF2 : Hid (∀ wx ox, Tm wx ox L p n N free it1 S g f ms (stsOf n) → Calls Try.prog 52 #[.pointer (some ⟨p, 0, none⟩), .int .i64 b, .int .i64 2, .bool on] wx fun e w' => e = .returned (.tuple #[]) ∧ ∃ o', Tt w' o' L p n Y (Dm val (updM (updM mk (u, v) on) (v, u) on)) ∧ Step (FL L) wx ox w' o') := fun wx ox Tx => by
    refine (flag_in wx ox L p n N free it1 S g f ms (stsOf n) b 2 on Tx l2 (.inr rfl) (by rw [eb, i2]; by_cases hb : mk (v, u) <;> simp [Dm, hb, huv.symm]) (by rw [eb]; exact m2)).mono ?_
    rintro e w' ⟨rfl, o', T', s⟩
    refine ⟨rfl, o', ⟨N, free, _, S, g, f, ms, T', ?_, t, E, hn⟩, s⟩
    have h1 := la.set l1 ⟨(it a).v, (it a).c, if on then 2 else 0⟩
    rw [← hit1, g1, i1] at h1
    have e1 := Dm_mark val mk (u, v) on
    simp only [huv, if_false] at e1
    rw [e1] at h1
    have h2 := h1.set l2 ⟨(it1 b).v, (it1 b).c, if on then 2 else 0⟩
    rw [g2] at h2
    have e3 : it1 b = Dm val (updM mk (u, v) on) (v, u) := by
      rw [eb, i2]; unfold Dm updM
      have hne : ((v, u) : Nat × Nat) ≠ (u, v) := fun e => huv (Prod.mk.inj e).2
      simp [hne]
    have e2 := Dm_mark val (updM mk (u, v) on) (v, u) on
    simp only [huv.symm, if_false] at e2
    rw [e3] at h2 ⊢
    rw [e2] at h2
    exact h2
  have HT : Hid (Tm w o L p n N free it S g f ms (stsOf n)) := T
  clear T la t E q hs hs2 f1 f2 l1 l2 g1 g2 ha hb i1 i2 m1 m2 eb hit1
  go_enter Try.func23, Try.ntmps23
  go_wp2_with fail
  refine hed.mono ?_
  rintro e w1 ⟨rfl, s1⟩
  have h1 := HF1.out w1 o (HT.out.quiet s1)
  clear hed HF1 HT
  go_wp2_with fail
  refine h1.mono ?_
  rintro e w2 ⟨rfl, o2, T2, s2⟩
  have h2 := HF2.out w2 o2 T2
  clear h1 HF2 T2
  go_wp2_with fail
  refine h2.mono ?_
  rintro e w3 ⟨rfl, o3, T3, s3⟩
  have S3 := ((s1.mono (J := TL L) fun _ h => h.elim).trans s2.tl).trans s3.tl
  clear h2 s1 s2 s3
  go_wp2
  go_ret
  exact ⟨rfl, o3, T3, S3⟩

theorem markEdge_none_t (w : World) (o : Nat → Nat) (L p n : Nat) (Y : Nat → List (Nat × Nat)) (D : Nat × Nat → It) (u v : Nat) (on : Bool) (T : Tt w o L p n Y D) (hu : u < n) (hv : v < n) (hno : ¬ (u ≠ v ∧ (u, v) ∈ Y u)) :
    Calls Try.prog 23 #[.pointer (some ⟨p, 0, none⟩), .int .i64 u, .int .i64 v, .bool on] w fun e w' => e = .returned (.int .i64 42) ∧ ∃ o', Tt w' o' L p n Y D ∧ Step (TL L) w o w' o' := by
  have T0 := T
  obtain ⟨N, free, it, S, g, f, ms, T, la, t, E, hn⟩ := T
  have hf : f u v = 0 := Classical.byContradiction fun h => hno ((la.has t T.sq hn.2 hu hv).1 h)
  have hc := edge_none w o L p n N free it S g f ms u v T hn.2 hu hv hf
  clear T la t E hf hno
  go_enter Try.func23, Try.ntmps23
  go_wp2_with fail
  refine hc.mono ?_
  rintro e w1 ⟨rfl, hw⟩
  obtain rfl : w = w1 := hw.symm
  clear hc
  go_wp2
  go_ret
  exact ⟨rfl, o, T0, Step.refl _ _ _⟩

end Go.Proofs.Ytnpfagpgploolaa
namespace Go.Proofs.Ytnpfagpgploolaa
open Go.ChangeShapes Go.WideShapes Go.ChangeAt Go.RowKit Go.Maps
set_option linter.unusedVariables false

theorem Blk.cells2f {w : World} {o : Nat → Nat} {i b : Nat} {a0 a1 : Value} {t : TypeId} (h : Blk w o i b (.cells #[a0, a1] t (0, 0))) :
    w.cell? ⟨b, 0, none⟩ = some a0 ∧ w.cell? ⟨b, 1, none⟩ = some a1 ∧ ∀ j, w.frozen? ⟨b, j, none⟩ = false := by
  refine ⟨?_, ?_, fun j => ?_⟩
  · simp [cell_of_row w b _ _ t (0, 0) h.1]
  · simp [cell_of_row w b _ _ t (0, 0) h.1]
  · exact frozen_of_row w b j _ t h.1

set_option maxRecDepth 100000 in
theorem flagged_in (w : World) (o : Nat → Nat) (L p n N : Nat) (free : List Nat) (it : Nat → It) (S : Nat → List Nat) (g : Nat → Nat × Nat) (f : Nat → Nat → Nat) (ms v m b : Nat) (A B : List Nat) (T : Tm w o L p n N free it S g f ms (stsOf n)) (hn : n ≤ 64) (hv : v < n) (lv : Live N free (v + 1)) (hm : m ≤ 255) (hA : S (v + 1) = A ++ b :: B) (hno : ∀ k ∈ A, (it k).f &&& m = 0) (hb : (it b).f &&& m ≠ 0) :
    Calls Try.prog 55 #[.pointer (some ⟨p, 0, none⟩), .int .i64 v, .int .i64 m] w fun e w' => e = .returned (.tuple #[.agg #[.int .i64 ((g b).1 : Nat), .int .i64 ((g b).2 : Nat)], .int .i64 0]) ∧ ∃ o', Tm w' o' L p n N free it S g f ms (stsOf n) ∧ Step (TL L) w o w' o' := by
  have n1 := newStep (fun _ => False) w o (L + 1110) (.cells #[.int .i64 0, .int .i64 0] 75)
  have B1 : Blk (w.alloc (.cells #[.int .i64 0, .int .i64 0] 75)) (newLab w o (L + 1110)) (L + 1110) w.heap.size (.cells #[.int .i64 0, .int .i64 0] 75 (0, 0)) := ⟨heap_alloc_new w _, newLab_new (Nat.le_refl _)⟩
  have T := T.quiet n1
  obtain ⟨w1, hw1⟩ : ∃ w1, w1 = w.alloc (.cells #[.int .i64 0, .int .i64 0] 75) := ⟨_, rfl⟩
  obtain ⟨o1, ho1⟩ : ∃ o1, o1 = newLab w o (L + 1110) := ⟨_, rfl⟩
  rw [← hw1, ← ho1] at n1 B1 T
  obtain ⟨pf, bs, cap, ⟨hcap, hmx⟩, F, HC, hrest⟩ := T.open (by omega)
  obtain ⟨pf', bs', cap', bm, bg, h1, h2, h3, h4, h5⟩ := T
  have hv1 := has_any w1 o1 L p n pf' bs' cap' bm bg v h1
  rw [decide_eq_true (by omega)] at hv1
  obtain ⟨⟨d0, d1⟩, dv⟩ := HC w1 o1 (Step.refl _ _ _)
  obtain rfl : pf' = pf := by have := h1.cells.1; rw [d0] at this; simpa using this.symm
  have ecast : (((v + 1 : Nat)) : Int) = (v : Int) + 1 := by omega
  have hvn : (v : Int) < (n : Int) := by omega
  have HCK : Hid (∀ wx ox, Step (FL L) w1 o1 wx ox → wx.cell? ⟨p, 0, none⟩ = some (.pointer (some ⟨pf', 0, none⟩)) ∧ wx.cell? ⟨p, 1, none⟩ = some (.slice (some ⟨bs, 0, none⟩) n cap) ∧ wx.cell? ⟨bs, v, none⟩ = some (.int .i64 ((v : Int) + 1))) := fun wx ox s => by
    obtain ⟨⟨c0, c1⟩, cv⟩ := HC wx ox s
    have cv := cv v hv
    rw [ecast] at cv
    exact ⟨c0, c1, cv⟩
  have hfl := flagInF w1.drew o1 L pf' _ N free it S (v + 1) m b A B (h2.quiet ((Step.refl _ _ _).drew)) lv hm hA hno hb
  rw [ecast] at hfl
  have lb : Live N free b := (h2.mem lv (by rw [hA]; simp)).1
  have HE : Hid (∀ wx ox, Step (FL L) w1 o1 wx ox → Fo wx ox L pf' (n + 2 * (n - 1)) N free it S → wx.cell? ⟨p, 3, none⟩ = some (.map (some bg)) ∧ (Instr.lookup 70 (.map (some bg)) (.int .i64 (b : Nat)) false).run Try.prog wx = .ok (.agg #[.int .i64 ((g b).1 : Nat), .int .i64 ((g b).2 : Nat)]) wx ∧ Tm wx ox L p n N free it S g f ms (stsOf n) ∧ Blk wx ox (L + 1110) w.heap.size (.cells #[.int .i64 0, .int .i64 0] 75 (0, 0)) ∧ Step (TL L) w o wx ox) := fun wx ox s Fx => by
    obtain ⟨k1, k3, k4, k5⟩ := Tm.fo' h1 h3 h4 h5 s
    exact ⟨k1.cells.2.2.2, k5.look b (by have := lb.2.1; have := h2.wf.le; omega) lb, Tm.fo h1 h3 h4 h5 s Fx, B1.step s (fun h => by have := h.2; omega), (n1.mono fun _ h => h.elim).trans s.tl⟩
  have sdd : Step (FL L) w1 o1 w1.drew o1 := (Step.refl _ _ _).drew
  have k0 := HCK.out _ _ sdd
  obtain ⟨x, hx⟩ : ∃ x, x = (g b).1 := ⟨_, rfl⟩
  obtain ⟨y, hy⟩ : ∃ y, y = (g b).2 := ⟨_, rfl⟩
  rw [← hx, ← hy] at HE ⊢
  clear hrest F HC h1 h2 h3 h4 h5 d0 d1 dv ecast hx hy n1 B1 hA hno
  go_enter Try.func55, Try.ntmps55
  go_wp2_with fail
  rw [← hw1]
  clear hw1
  refine hv1.mono ?_
  rintro e w' ⟨rfl, hw'⟩
  obtain rfl : w1 = w' := hw'.symm
  clear hv1
  go_wp2_with fail
  go_region_held (fun wx => wx.cell? ⟨p, 0, none⟩ = some (.pointer (some ⟨pf', 0, none⟩)) ∧ wx.cell? ⟨p, 1, none⟩ = some (.slice (some ⟨bs, 0, none⟩) n cap) ∧ wx.cell? ⟨bs, v, none⟩ = some (.int .i64 ((v : Int) + 1))) (first | (with_reducible exact k1) | (with_reducible exact k0)) ((go_at_call 78; refine hfl.mono ?_; rintro e w3 ⟨rfl, o3, F3, s3⟩; have k1 := HCK.out _ _ (sdd.trans s3); obtain ⟨e3, hlk, T3, B3, S3⟩ := HE.out _ _ (sdd.trans s3) F3))
  all_goals
    obtain ⟨x0, x1, xf⟩ := B3.cells2f
    have S9 := (S3.setNew 0 (.int .i64 x) (Nat.le_refl _)).setNew 1 (.int .i64 y) (Nat.le_refl _)
    have f9 : Step (fun k => k = L + 1110) w3 o3 ((w3.setCell ⟨w.heap.size, 0, none⟩ (.int .i64 x)).setCell ⟨w.heap.size, 1, none⟩ (.int .i64 y)) o3 := ((Step.refl _ _ _).setCell _ _ B3.2).setCell _ _ B3.2
    have R9 := T3.step f9 (fun k hk e => by have := hk.2; omega)
    clear hfl F3 k1 k0 HE HCK sdd s3 T3 f9 S3 B3
    go_wp2
    exact bodyPost_ret (v := .tuple #[.agg #[.int .i64 x, .int .i64 y], .int .i64 0]) (by simp [results, Try.results55, go_sem, x0, x1]) rfl ⟨rfl, _, R9, S9⟩

set_option maxRecDepth 100000 in
theorem flagged_none (w : World) (o : Nat → Nat) (L p n N : Nat) (free : List Nat) (it : Nat → It) (S : Nat → List Nat) (g : Nat → Nat × Nat) (f : Nat → Nat → Nat) (ms v m : Nat) (T : Tm w o L p n N free it S g f ms (stsOf n)) (hn : n ≤ 64) (hv : v < n) (lv : Live N free (v + 1)) (hm : m ≤ 255) (hno : ∀ k ∈ S (v + 1), (it k).f &&& m = 0) :
    Calls Try.prog 55 #[.pointer (some ⟨p, 0, none⟩), .int .i64 v, .int .i64 m] w fun e w' => e = .returned (.tuple #[.agg #[.int .i64 0, .int .i64 0], .int .i64 43]) ∧ ∃ o', Tm w' o' L p n N free it S g f ms (stsOf n) ∧ Step (TL L) w o w' o' := by
  have n1 := newStep (fun _ => False) w o (L + 1110) (.cells #[.int .i64 0, .int .i64 0] 75)
  have B1 : Blk (w.alloc (.cells #[.int .i64 0, .int .i64 0] 75)) (newLab w o (L + 1110)) (L + 1110) w.heap.size (.cells #[.int .i64 0, .int .i64 0] 75 (0, 0)) := ⟨heap_alloc_new w _, newLab_new (Nat.le_refl _)⟩
  have T := T.quiet n1
  obtain ⟨w1, hw1⟩ : ∃ w1, w1 = w.alloc (.cells #[.int .i64 0, .int .i64 0] 75) := ⟨_, rfl⟩
  obtain ⟨o1, ho1⟩ : ∃ o1, o1 = newLab w o (L + 1110) := ⟨_, rfl⟩
  rw [← hw1, ← ho1] at n1 B1 T
  obtain ⟨pf, bs, cap, ⟨hcap, hmx⟩, F, HC, hrest⟩ := T.open (by omega)
  obtain ⟨pf', bs', cap', bm, bg, h1, h2, h3, h4, h5⟩ := T
  have hv1 := has_any w1 o1 L p n pf' bs' cap' bm bg v h1
  rw [decide_eq_true (by omega)] at hv1
  obtain ⟨⟨d0, d1⟩, dv⟩ := HC w1 o1 (Step.refl _ _ _)
  obtain rfl : pf' = pf := by have := h1.cells.1; rw [d0] at this; simpa using this.symm
  have ecast : (((v + 1 : Nat)) : Int) = (v : Int) + 1 := by omega
  have hvn : (v : Int) < (n : Int) := by omega
  have HCK : Hid (∀ wx ox, Step (FL L) w1 o1 wx ox → wx.cell? ⟨p, 0, none⟩ = some (.pointer (some ⟨pf', 0, none⟩)) ∧ wx.cell? ⟨p, 1, none⟩ = some (.slice (some ⟨bs, 0, none⟩) n cap) ∧ wx.cell? ⟨bs, v, none⟩ = some (.int .i64 ((v : Int) + 1))) := fun wx ox s => by
    obtain ⟨⟨c0, c1⟩, cv⟩ := HC wx ox s
    have cv := cv v hv
    rw [ecast] at cv
    exact ⟨c0, c1, cv⟩
  have hfl := flagNoneF w1.drew o1 L pf' _ N free it S (v + 1) m (h2.quiet ((Step.refl _ _ _).drew)) lv hm hno
  rw [ecast] at hfl
  have HE : Hid (∀ wx ox, Step (FL L) w1 o1 wx ox → Fo wx ox L pf' (n + 2 * (n - 1)) N free it S → Tm wx ox L p n N free it S g f ms (stsOf n) ∧ Blk wx ox (L + 1110) w.heap.size (.cells #[.int .i64 0, .int .i64 0] 75 (0, 0)) ∧ Step (TL L) w o wx ox) := fun wx ox s Fx =>
    ⟨Tm.fo h1 h3 h4 h5 s Fx, B1.step s (fun h => by have := h.2; omega), (n1.mono fun _ h => h.elim).trans s.tl⟩
  have sdd : Step (FL L) w1 o1 w1.drew o1 := (Step.refl _ _ _).drew
  have k0 := HCK.out _ _ sdd
  clear hrest F HC h1 h2 h3 h4 h5 d0 d1 dv ecast n1 B1 hno
  go_enter Try.func55, Try.ntmps55
  go_wp2_with fail
  rw [← hw1]
  clear hw1
  refine hv1.mono ?_
  rintro e w' ⟨rfl, hw'⟩
  obtain rfl : w1 = w' := hw'.symm
  clear hv1
  go_wp2_with fail
  go_region_held (fun wx => wx.cell? ⟨p, 0, none⟩ = some (.pointer (some ⟨pf', 0, none⟩)) ∧ wx.cell? ⟨p, 1, none⟩ = some (.slice (some ⟨bs, 0, none⟩) n cap) ∧ wx.cell? ⟨bs, v, none⟩ = some (.int .i64 ((v : Int) + 1))) (first | (with_reducible exact k1) | (with_reducible exact k0)) ((go_at_call 78; refine hfl.mono ?_; rintro e w3 ⟨rfl, o3, F3, s3⟩; have k1 := HCK.out _ _ (sdd.trans s3); obtain ⟨T3, B3, S3⟩ := HE.out _ _ (sdd.trans s3) F3))
  all_goals
    obtain ⟨x0, x1, xf⟩ := B3.cells2f
    have S9 := (S3.setNew 0 (.int .i64 0) (Nat.le_refl _)).setNew 1 (.int .i64 0) (Nat.le_refl _)
    have f9 : Step (fun k => k = L + 1110) w3 o3 ((w3.setCell ⟨w.heap.size, 0, none⟩ (.int .i64 0)).setCell ⟨w.heap.size, 1, none⟩ (.int .i64 0)) o3 := ((Step.refl _ _ _).setCell _ _ B3.2).setCell _ _ B3.2
    have R9 := T3.step f9 (fun k hk e => by have := hk.2; omega)
    clear hfl F3 k1 k0 HE HCK sdd s3 T3 f9 S3 B3
    go_wp2
    exact bodyPost_ret (v := .tuple #[.agg #[.int .i64 0, .int .i64 0], .int .i64 43]) (by simp [results, Try.results55, go_sem, x0, x1]) rfl ⟨rfl, _, R9, S9⟩

set_option maxRecDepth 100000 in
theorem markedEdge_m (w : World) (o : Nat → Nat) (L p n N : Nat) (free : List Nat) (it : Nat → It) (S : Nat → List Nat) (g : Nat → Nat × Nat) (f : Nat → Nat → Nat) (ms v : Nat) (x y r : Nat) (T : Tm w o L p n N free it S g f ms (stsOf n))
    (hfl : ∀ wx ox, Tm wx ox L p n N free it S g f ms (stsOf n) → Calls Try.prog 55 #[.pointer (some ⟨p, 0, none⟩), .int .i64 v, .int .i64 2] wx fun e w' => e = .returned (.tuple #[.agg #[.int .i64 x, .int .i64 y], .int .i64 r]) ∧ ∃ o', Tm w' o' L p n N free it S g f ms (stsOf n) ∧ Step (TL L) wx ox w' o') :
    Calls Try.prog 24 #[.pointer (some ⟨p, 0, none⟩), .int .i64 v] w fun e w' => e = .returned (.tuple #[.agg #[.int .i64 x, .int .i64 y], .int .i64 r]) ∧ ∃ o', Tm w' o' L p n N free it S g f ms (stsOf n) ∧ Step (TL L) w o w' o' := by
  have n1 := newStep (fun _ => False) w o (L + 1111) (.cells #[.int .i64 0, .int .i64 0] 49)
  have B1 : Blk (w.alloc (.cells #[.int .i64 0, .int .i64 0] 49)) (newLab w o (L + 1111)) (L + 1111) w.heap.size (.cells #[.int .i64 0, .int .i64 0] 49 (0, 0)) := ⟨heap_alloc_new w _, newLab_new (Nat.le_refl _)⟩
  have hc := hfl _ _ (T.quiet n1)
  clear hfl T
  go_enter Try.func24, Try.ntmps24
  go_wp2_with fail
  refine hc.mono ?_
  rintro e w2 ⟨rfl, o2, T2, s2⟩
  have B2 := B1.step s2 (fun h => by have := h.2; omega)
  obtain ⟨x0, x1, xf⟩ := B2.cells2f
  have hlt2 : w.heap.size < w2.heap.size := B2.lt
  have hne : w.heap.size ≠ w2.heap.size := by omega
  have hne2 := hne.symm
  have st : Step (TL L) w o w2 o2 := (n1.mono fun _ h => h.elim).trans s2
  have S9 := ((st.setNew 0 (.int .i64 x) (Nat.le_refl _)).setNew 1 (.int .i64 y) (Nat.le_refl _)).alloc (.cells #[.int .i64 x, .int .i64 y] 75)
  have f9 : Step (fun k => k = L + 1111) w2 o2 (((w2.setCell ⟨w.heap.size, 0, none⟩ (.int .i64 x)).setCell ⟨w.heap.size, 1, none⟩ (.int .i64 y)).alloc (.cells #[.int .i64 x, .int .i64 y] 75)) o2 := (((Step.refl _ _ _).setCell _ _ B2.2).setCell _ _ B2.2).alloc _
  have R9 := T2.step f9 (fun k hk e => by have := hk.2; omega)
  have B9 : Blk ((w2.setCell ⟨w.heap.size, 0, none⟩ (.int .i64 x)).setCell ⟨w.heap.size, 1, none⟩ (.int .i64 y)) o2 (L + 1111) w.heap.size (.cells #[.int .i64 x, .int .i64 y] 49 (0, 0)) := (B2.set 0 (.int .i64 x)).set 1 (.int .i64 y)
  obtain ⟨z0, z1, zf⟩ := (B9.step ((Step.refl (fun _ => False) _ _).alloc (.cells #[.int .i64 x, .int .i64 y] 75)) id).cells2f
  have HZ : Hid ((((w2.setCell ⟨w.heap.size, 0, none⟩ (.int .i64 x)).setCell ⟨w.heap.size, 1, none⟩ (.int .i64 y)).alloc (.cells #[.int .i64 x, .int .i64 y] 75)).cell? ⟨w.heap.size, 0, none⟩ = some (.int .i64 x) ∧ (((w2.setCell ⟨w.heap.size, 0, none⟩ (.int .i64 x)).setCell ⟨w.heap.size, 1, none⟩ (.int .i64 y)).alloc (.cells #[.int .i64 x, .int .i64 y] 75)).cell? ⟨w.heap.size, 1, none⟩ = some (.int .i64 y)) := ⟨z0, z1⟩
  clear hc n1 B1 B2 st f9 T2 s2 z0 z1 zf B9
  go_wp2
  obtain ⟨z0, z1⟩ := HZ.out
  exact bodyPost_ret (v := .tuple #[.agg #[.int .i64 x, .int .i64 y], .int .i64 r]) (by simp [results, Try.results24, go_sem, z0, z1]) rfl ⟨rfl, _, R9, S9⟩

/-- No marked edge in a vertex' tree. -/
theorem markedEdge_none_t (w : World) (o : Nat → Nat) (L p n : Nat) (Y : Nat → List (Nat × Nat)) (val : Nat → Int) (mk : Nat × Nat → Bool) (v : Nat) (T : Tt w o L p n Y (Dm val mk)) (hv : v < n) (hno : ∀ s ∈ Y v, s.1 ≠ s.2 → mk s = false) :
    Calls Try.prog 24 #[.pointer (some ⟨p, 0, none⟩), .int .i64 v] w fun e w' => e = .returned (.tuple #[.agg #[.int .i64 0, .int .i64 0], .int .i64 43]) ∧ ∃ o', Tt w' o' L p n Y (Dm val mk) ∧ Step (TL L) w o w' o' := by
  obtain ⟨N, free, it, S, g, f, ms, T, la, t, E, hn⟩ := T
  have lv := (la.stop v hv).1
  have q := T.sq
  refine (markedEdge_m w o L p n N free it S g f ms v 0 0 43 T (fun wx ox Tx => flagged_none wx ox L p n N free it S g f ms v 2 Tx hn.2 hv lv (by omega) (fun k hk => ?_))).mono ?_
  · have lk := (q.mem _ lv k hk).1
    rw [la.item k lk]
    have hm : g k ∈ Y v := by rw [← t.at la hv]; exact List.mem_map.2 ⟨k, hk, rfl⟩
    unfold Dm
    by_cases e : (g k).1 = (g k).2
    · by_cases b : mk (g k) <;> simp [e, b]
    · rw [hno _ hm e]; simp
  · rintro e w' ⟨rfl, o', T', s⟩
    exact ⟨rfl, o', ⟨N, free, it, S, g, f, ms, T', la, t, E, hn⟩, s⟩
/-- The first marked edge of a vertex' tree. -/
theorem markedEdge_t (w : World) (o : Nat → Nat) (L p n : Nat) (Y : Nat → List (Nat × Nat)) (val : Nat → Int) (mk : Nat × Nat → Bool) (v : Nat) (A B : List (Nat × Nat)) (s : Nat × Nat) (T : Tt w o L p n Y (Dm val mk)) (hv : v < n) (hA : Y v = A ++ s :: B) (hno : ∀ t ∈ A, t.1 ≠ t.2 → mk t = false) (hs : s.1 ≠ s.2) (hm : mk s = true) :
    Calls Try.prog 24 #[.pointer (some ⟨p, 0, none⟩), .int .i64 v] w fun e w' => e = .returned (.tuple #[.agg #[.int .i64 (s.1 : Nat), .int .i64 (s.2 : Nat)], .int .i64 0]) ∧ ∃ o', Tt w' o' L p n Y (Dm val mk) ∧ Step (TL L) w o w' o' := by
  obtain ⟨N, free, it, S, g, f, ms, T, la, t, E, hn⟩ := T
  have lv := (la.stop v hv).1
  have q := T.sq
  have em := t.at la hv
  rw [hA] at em
  obtain ⟨A', R1, hS, hA', hR1⟩ := List.map_eq_append_iff.1 em
  obtain ⟨b, B', rfl, gb, hB'⟩ := List.map_eq_cons_iff.1 hR1
  have lb := (q.mem _ lv b (by rw [hS]; simp)).1
  refine (markedEdge_m w o L p n N free it S g f ms v s.1 s.2 0 T (fun wx ox Tx => ?_)).mono ?_
  · have := flagged_in wx ox L p n N free it S g f ms v 2 b A' B' Tx hn.2 hv lv (by omega) hS (fun k hk => ?_) ?_
    · rw [gb] at this; exact this
    · have lk := (q.mem _ lv k (by rw [hS]; simp [hk])).1
      rw [la.item k lk]
      have hmm : g k ∈ A := by rw [← hA']; exact List.mem_map.2 ⟨k, hk, rfl⟩
      unfold Dm
      by_cases e : (g k).1 = (g k).2
      · by_cases b : mk (g k) <;> simp [e, b]
      · rw [hno _ hmm e]; simp
    · rw [la.item b lb, gb]
      unfold Dm
      simp [hm, hs]
  · rintro e w' ⟨rfl, o', T', st⟩
    exact ⟨rfl, o', ⟨N, free, it, S, g, f, ms, T', la, t, E, hn⟩, st⟩

end Go.Proofs.Ytnpfagpgploolaa
