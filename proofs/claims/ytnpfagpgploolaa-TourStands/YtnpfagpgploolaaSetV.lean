/- Tours: a vertex' value. -/
import Derived.Test.YtnpfagpgploolaaMarkA
import Derived.Deep.RegionHeld3
namespace Go.Proofs.Ytnpfagpgploolaa
open Go.ChangeShapes Go.WideShapes Go.ChangeAt Go.RowKit Go.Maps
set_option linter.unusedVariables false

theorem Blk.cells3f {w : World} {o : Nat → Nat} {i b : Nat} {a0 a1 a2 : Value} {t : TypeId} (h : Blk w o i b (.cells #[a0, a1, a2] t (0, 0))) :
    w.cell? ⟨b, 0, none⟩ = some a0 ∧ w.cell? ⟨b, 1, none⟩ = some a1 ∧ w.cell? ⟨b, 2, none⟩ = some a2 ∧ ∀ j, w.frozen? ⟨b, j, none⟩ = false := by
  refine ⟨?_, ?_, ?_, fun j => frozen_of_row w b j _ t h.1⟩ <;> simp [cell_of_row w b _ _ t (0, 0) h.1]
theorem three_keep (w : World) (b p bs pf n cap v : Nat) (v0 v1 v2 : Value) (hp : p ≠ b) (hb : bs ≠ b) (h : w.cell? ⟨p, 0, none⟩ = some (.pointer (some ⟨pf, 0, none⟩)) ∧ w.cell? ⟨p, 1, none⟩ = some (.slice (some ⟨bs, 0, none⟩) n cap) ∧ w.cell? ⟨bs, v, none⟩ = some (.int .i64 ((v : Int) + 1))) :
    (((w.setCell ⟨b, 0, none⟩ v0).setCell ⟨b, 1, none⟩ v1).setCell ⟨b, 2, none⟩ v2).cell? ⟨p, 0, none⟩ = some (.pointer (some ⟨pf, 0, none⟩)) ∧ (((w.setCell ⟨b, 0, none⟩ v0).setCell ⟨b, 1, none⟩ v1).setCell ⟨b, 2, none⟩ v2).cell? ⟨p, 1, none⟩ = some (.slice (some ⟨bs, 0, none⟩) n cap) ∧ (((w.setCell ⟨b, 0, none⟩ v0).setCell ⟨b, 1, none⟩ v1).setCell ⟨b, 2, none⟩ v2).cell? ⟨bs, v, none⟩ = some (.int .i64 ((v : Int) + 1)) := by
  have key : ∀ a : Addr, a.block ≠ b → (((w.setCell ⟨b, 0, none⟩ v0).setCell ⟨b, 1, none⟩ v1).setCell ⟨b, 2, none⟩ v2).cell? a = w.cell? a := fun a ha => by
    have ne : ∀ i, (⟨b, i, none⟩ : Addr) ≠ a := fun i e => ha (by rw [← e])
    rw [World.cell?_setCell_other _ _ _ _ (ne 2), World.cell?_setCell_other _ _ _ _ (ne 1), World.cell?_setCell_other _ _ _ _ (ne 0)]
  exact ⟨(key _ hp).trans h.1, (key _ hp).trans h.2.1, (key _ hb).trans h.2.2⟩
theorem item_keep {w w' : World} {o o' : Nat → Nat} {L bi : Nat} {a0 a1 a2 : Value} {t : TypeId} {C : Prop} (h : Blk w o (L + 1110) bi (.cells #[a0, a1, a2] t (0, 0))) (s : Step (FL L) w o w' o') (c : C) : C ∧ w'.cell? ⟨bi, 0, none⟩ = some a0 ∧ w'.cell? ⟨bi, 1, none⟩ = some a1 ∧ w'.cell? ⟨bi, 2, none⟩ = some a2 := by
  obtain ⟨x0, x1, x2, _⟩ := (h.step s (fun h => by have := h.2; omega)).cells3f
  exact ⟨c, x0, x1, x2⟩
set_option maxRecDepth 100000 in
theorem setValue_t (w : World) (o : Nat → Nat) (L p n : Nat) (Y : Nat → List (Nat × Nat)) (val : Nat → Int) (mk : Nat × Nat → Bool) (v : Nat) (x : Int) (T : Tt w o L p n Y (Dm val mk)) (hv : v < n) (hx : -1099511627776 ≤ x ∧ x ≤ 1099511627776) :
    Calls Try.prog 17 #[.pointer (some ⟨p, 0, none⟩), .int .i64 v, .int .i64 x] w fun e w' => e = .returned (.int .i64 0) ∧ ∃ o', Tt w' o' L p n Y (Dm (fun u => if u = v then x else val u) mk) ∧ Step (TL L) w o w' o' := by
  obtain ⟨N, free, it, S, g, f, ms, T, la, t, E, hn⟩ := T
  have lv := (la.stop v hv).1
  have hit := la.item _ lv
  rw [(la.stop v hv).2] at hit
  have hmay := T.may lv
  obtain ⟨pf, bs, cap, ⟨hcap, hmx⟩, F, HC, hrest⟩ := T.open (by omega)
  have T0 := T
  obtain ⟨pf', bs', cap', bm, bg, h1, h2, h3, h4, h5⟩ := T
  have hv1 := has_any w o L p n pf' bs' cap' bm bg v h1
  rw [decide_eq_true (by omega)] at hv1
  obtain ⟨⟨d0, d1⟩, dv⟩ := HC w o (Step.refl _ _ _)
  have dv := dv v hv
  have hvn : (v : Int) < (n : Int) := by omega
  have ecast : (((v + 1 : Nat)) : Int) = (v : Int) + 1 := by omega
  have HG : Hid (∀ wx, Step (fun _ => False) w o wx o → Calls Try.prog 50 #[.pointer (some ⟨pf, 0, none⟩), .int .i64 ((v : Int) + 1)] wx fun e w' => e = .returned (.tuple #[.agg #[.int .i64 (it (v + 1)).v, .bool (it (v + 1)).c, .int .i64 (it (v + 1)).f], .int .i64 0]) ∧ Step (fun _ => False) wx o w' o) := fun wx s => by
    have := getInF wx o L pf _ N free it S (v + 1) (F.quiet s) lv
    rw [ecast] at this
    unfold itemV at this
    refine this.mono ?_
    rintro e w' ⟨rfl, s'⟩
    exact ⟨rfl, s'⟩
  have HK : Hid (∀ wx, Step (fun _ => False) w o wx o → wx.cell? ⟨p, 0, none⟩ = some (.pointer (some ⟨pf, 0, none⟩)) ∧ wx.cell? ⟨p, 1, none⟩ = some (.slice (some ⟨bs, 0, none⟩) n cap) ∧ wx.cell? ⟨bs, v, none⟩ = some (.int .i64 ((v : Int) + 1))) := fun wx s => by
    obtain ⟨⟨c0, c1⟩, cv⟩ := HC wx o (s.mono fun _ h => h.elim)
    have cv := cv v hv
    rw [ecast] at cv
    exact ⟨c0, c1, cv⟩
  rw [ecast] at dv
  have k0 : w.cell? ⟨p, 0, none⟩ = some (.pointer (some ⟨pf, 0, none⟩)) ∧ w.cell? ⟨p, 1, none⟩ = some (.slice (some ⟨bs, 0, none⟩) n cap) ∧ w.cell? ⟨bs, v, none⟩ = some (.int .i64 ((v : Int) + 1)) := ⟨d0, d1, dv⟩
  obtain ⟨y, hy⟩ : ∃ y, y = it (v + 1) := ⟨_, rfl⟩
  have HSET : Hid (∀ wx ox, Step (fun k => k = L + 1110) w o wx ox → Step (FL L) w o wx ox → Calls Try.prog 51 #[.pointer (some ⟨pf, 0, none⟩), .int .i64 ((v : Int) + 1), .agg #[.int .i64 x, .bool y.c, .int .i64 y.f]] wx fun e w' => e = .returned (.int .i64 0) ∧ ∃ o', Tt w' o' L p n Y (Dm (fun u => if u = v then x else val u) mk) ∧ Step (TL L) w o w' o' ∧ Step (FL L) wx ox w' o' ∧ (w'.cell? ⟨p, 0, none⟩ = some (.pointer (some ⟨pf, 0, none⟩)) ∧ w'.cell? ⟨p, 1, none⟩ = some (.slice (some ⟨bs, 0, none⟩) n cap) ∧ w'.cell? ⟨bs, v, none⟩ = some (.int .i64 ((v : Int) + 1)))) := fun wx ox s s2 => by
    have hmx : It.may ⟨x, y.c, y.f⟩ := ⟨hx.1, hx.2, by rw [hy]; exact hmay.2.2⟩
    have hs := setInF wx ox L pf _ N free it S (v + 1) ⟨x, y.c, y.f⟩ (F.step s (fun k hk e => by have := hk.2; omega)) lv hmx
    rw [ecast] at hs
    unfold itemV at hs
    refine hs.mono ?_
    rintro e w' ⟨rfl, o', F', s'⟩
    refine ⟨rfl, o', ⟨N, free, _, S, g, f, ms, hrest _ _ _ _ (s2.trans s') F', ?_, t, E, hn⟩, (s2.trans s').tl, s', ?_⟩
    rotate_left
    · obtain ⟨⟨c0, c1⟩, cv⟩ := HC w' _ (s2.trans s')
      have cv := cv v hv
      rw [ecast] at cv
      exact ⟨c0, c1, cv⟩
    have hl := la.set lv ⟨x, y.c, y.f⟩
    rw [(la.stop v hv).2] at hl
    rw [← Dm_value val mk v x]
    rw [hy, hit] at hl ⊢
    exact hl
  have HG1 : Hid (Calls Try.prog 50 #[.pointer (some ⟨pf, 0, none⟩), .int .i64 ((v : Int) + 1)] w.drew fun e w' => e = .returned (.tuple #[.agg #[.int .i64 y.v, .bool y.c, .int .i64 y.f], .int .i64 0]) ∧ Step (fun _ => False) w o w' o ∧ (w'.cell? ⟨p, 0, none⟩ = some (.pointer (some ⟨pf, 0, none⟩)) ∧ w'.cell? ⟨p, 1, none⟩ = some (.slice (some ⟨bs, 0, none⟩) n cap) ∧ w'.cell? ⟨bs, v, none⟩ = some (.int .i64 ((v : Int) + 1)))) := by
    have s0 : Step (fun _ => False) w o w.drew o := (Step.refl _ _ _).drew
    refine (HG.out _ s0).mono ?_
    rintro e w' ⟨rfl, s⟩
    exact ⟨by rw [hy], s0.trans s, HK.out _ (s0.trans s)⟩
  have HG2 : Hid (Calls Try.prog 50 #[.pointer (some ⟨pf, 0, none⟩), .int .i64 ((v : Int) + 1)] (w.alloc (.cells #[.int .i64 0, .bool false, .int .i64 0] 90)).drew fun e w' => e = .returned (.tuple #[.agg #[.int .i64 y.v, .bool y.c, .int .i64 y.f], .int .i64 0]) ∧ Step (fun _ => False) w o w' (newLab w o (L + 1110)) ∧ (w'.cell? ⟨p, 0, none⟩ = some (.pointer (some ⟨pf, 0, none⟩)) ∧ w'.cell? ⟨p, 1, none⟩ = some (.slice (some ⟨bs, 0, none⟩) n cap) ∧ w'.cell? ⟨bs, v, none⟩ = some (.int .i64 ((v : Int) + 1))) ∧ Blk w' (newLab w o (L + 1110)) (L + 1110) w.heap.size (.cells #[.int .i64 0, .bool false, .int .i64 0] 90 (0, 0))) := by
    have n1 := newStep (fun _ => False) w o (L + 1110) (.cells #[.int .i64 0, .bool false, .int .i64 0] 90)
    have B1 : Blk (w.alloc (.cells #[.int .i64 0, .bool false, .int .i64 0] 90)) (newLab w o (L + 1110)) (L + 1110) w.heap.size (.cells #[.int .i64 0, .bool false, .int .i64 0] 90 (0, 0)) := ⟨heap_alloc_new w _, newLab_new (Nat.le_refl _)⟩
    have s0 : Step (fun _ => False) w o (w.alloc (.cells #[.int .i64 0, .bool false, .int .i64 0] 90)).drew o := ((Step.refl _ _ _).alloc _).drew
    have s1 := n1.drew
    refine (getInF _ _ L pf _ N free it S (v + 1) (F.quiet s1) lv |> fun h => (by rw [ecast] at h; exact h : Calls _ _ _ _ _)).mono ?_
    rintro e w' ⟨rfl, s⟩
    refine ⟨by rw [hy]; rfl, s1.trans s, ?_, B1.step ((Step.refl (fun _ => False) _ _).drew.trans s) id⟩
    obtain ⟨⟨c0, c1⟩, cv⟩ := HC w' _ ((s1.trans s).mono fun _ h => h.elim)
    have cv := cv v hv
    rw [ecast] at cv
    exact ⟨c0, c1, cv⟩
  obtain ⟨yv, yc, yf⟩ := y
  simp only at HG1 HG2 HSET
  clear HG
  have hpb : p ≠ w.heap.size := Nat.ne_of_lt (block_lt_of_cell d0)
  have hbb : bs ≠ w.heap.size := Nat.ne_of_lt (block_lt_of_cell dv)
  clear d0 d1 dv HK
  go_enter Try.func17, Try.ntmps17
  go_wp2_with fail
  refine hv1.mono ?_
  rintro e w' ⟨rfl, hw'⟩
  obtain rfl : w = w' := hw'.symm
  clear hv1
  clear HC hrest h1 h2 h3 h4 h5 la t E T0 F hit hmay lv
  go_wp2_with fail
  go_region_held3 (fun wx => wx.cell? ⟨p, 0, none⟩ = some (.pointer (some ⟨pf, 0, none⟩)) ∧ wx.cell? ⟨p, 1, none⟩ = some (.slice (some ⟨bs, 0, none⟩) n cap) ∧ wx.cell? ⟨bs, v, none⟩ = some (.int .i64 ((v : Int) + 1))) (first | (with_reducible exact k2) | (with_reducible exact k1) | (with_reducible exact k0) | go_keep) (first | (go_at_call 50; refine HG1.out.mono ?_; rintro e w3 ⟨rfl, s3, k1⟩) | (go_at_call 50; refine HG2.out.mono ?_; rintro e w3 ⟨rfl, s3, k1, B3⟩; obtain ⟨z0, z1, z2, zf⟩ := B3.cells3f; have k2 := three_keep w3 w.heap.size p bs pf n cap v (.int .i64 yv) (.bool yc) (.int .i64 yf) hpb hbb k1))
  · have n4 := newStep (fun _ => False) w3 o (L + 1110) (.cells #[.int .i64 yv, .bool yc, .int .i64 yf] 90)
    have BA : Blk (w3.alloc (.cells #[.int .i64 yv, .bool yc, .int .i64 yf] 90)) (newLab w3 o (L + 1110)) (L + 1110) w3.heap.size (.cells #[.int .i64 yv, .bool yc, .int .i64 yf] 90 (0, 0)) := ⟨heap_alloc_new w3 _, newLab_new (Nat.le_refl _)⟩
    have sA : Step (fun _ => False) w o (w3.alloc (.cells #[.int .i64 yv, .bool yc, .int .i64 yf] 90)) (newLab w3 o (L + 1110)) := s3.trans n4
    have hbi : w.heap.size ≤ w3.heap.size := s3.size
    have sB : Step (fun k => k = L + 1110) w o (w3.alloc (.cells #[.int .i64 yv, .bool yc, .int .i64 yf] 90)) (newLab w3 o (L + 1110)) := sA.mono fun _ h => h.elim
    have sC : Step (FL L) w o (w3.alloc (.cells #[.int .i64 yv, .bool yc, .int .i64 yf] 90)) (newLab w3 o (L + 1110)) := sA.mono fun _ h => h.elim
    obtain ⟨k3, k4, k5⟩ := k1
    have kA : (w3.alloc (.cells #[.int .i64 yv, .bool yc, .int .i64 yf] 90)).cell? ⟨p, 0, none⟩ = some (.pointer (some ⟨pf, 0, none⟩)) ∧ (w3.alloc (.cells #[.int .i64 yv, .bool yc, .int .i64 yf] 90)).cell? ⟨p, 1, none⟩ = some (.slice (some ⟨bs, 0, none⟩) n cap) ∧ (w3.alloc (.cells #[.int .i64 yv, .bool yc, .int .i64 yf] 90)).cell? ⟨bs, v, none⟩ = some (.int .i64 ((v : Int) + 1)) := ⟨(World.cell?_alloc_some _ _ _ (by rw [k3]; rfl)).trans k3, (World.cell?_alloc_some _ _ _ (by rw [k4]; rfl)).trans k4, (World.cell?_alloc_some _ _ _ (by rw [k5]; rfl)).trans k5⟩
    have q1 := block_lt_of_cell k3
    have q2 := block_lt_of_cell k5
    have hpi : p ≠ w3.heap.size := Nat.ne_of_lt q1
    have hbsi : bs ≠ w3.heap.size := Nat.ne_of_lt q2
    obtain ⟨wA, hwA⟩ : ∃ wA, wA = w3.alloc (.cells #[.int .i64 yv, .bool yc, .int .i64 yf] 90) := ⟨_, rfl⟩
    rw [← hwA] at BA sB sC kA ⊢
    obtain ⟨oA, hoA⟩ : ∃ oA, oA = newLab w3 o (L + 1110) := ⟨_, rfl⟩
    rw [← hoA] at BA sB sC
    clear hwA hoA n4 sA k3 k4 k5 s3 HG1 HG2 k0 q1 q2
    generalize w3.heap.size = bi at *
    obtain ⟨x0, x1, x2, xf⟩ := BA.cells3f
    have BB : Blk (wA.setCell ⟨bi, 0, none⟩ (.int .i64 x)) oA (L + 1110) bi (.cells #[.int .i64 x, .bool yc, .int .i64 yf] 90 (0, 0)) := BA.set 0 (.int .i64 x)
    have sB2 := sB.setCell ⟨bi, 0, none⟩ (.int .i64 x) BA.2
    have sC2 := sC.setNew 0 (.int .i64 x) hbi
    have hset := HSET.out _ oA sB2.drew sC2.drew
    have kB : (wA.setCell ⟨bi, 0, none⟩ (.int .i64 x)).cell? ⟨p, 0, none⟩ = some (.pointer (some ⟨pf, 0, none⟩)) ∧ (wA.setCell ⟨bi, 0, none⟩ (.int .i64 x)).cell? ⟨p, 1, none⟩ = some (.slice (some ⟨bs, 0, none⟩) n cap) ∧ (wA.setCell ⟨bi, 0, none⟩ (.int .i64 x)).cell? ⟨bs, v, none⟩ = some (.int .i64 ((v : Int) + 1)) :=
      ⟨(World.cell?_setCell_other _ _ _ _ (fun e => hpi (by injection e with e; exact e.symm))).trans kA.1, (World.cell?_setCell_other _ _ _ _ (fun e => hpi (by injection e with e; exact e.symm))).trans kA.2.1, (World.cell?_setCell_other _ _ _ _ (fun e => hbsi (by injection e with e; exact e.symm))).trans kA.2.2⟩
    obtain ⟨y0, y1, y2, yff⟩ := BB.cells3f
    have kC : ((wA.setCell ⟨bi, 0, none⟩ (.int .i64 x)).cell? ⟨p, 0, none⟩ = some (.pointer (some ⟨pf, 0, none⟩)) ∧ (wA.setCell ⟨bi, 0, none⟩ (.int .i64 x)).cell? ⟨p, 1, none⟩ = some (.slice (some ⟨bs, 0, none⟩) n cap) ∧ (wA.setCell ⟨bi, 0, none⟩ (.int .i64 x)).cell? ⟨bs, v, none⟩ = some (.int .i64 ((v : Int) + 1))) ∧ (wA.setCell ⟨bi, 0, none⟩ (.int .i64 x)).cell? ⟨bi, 0, none⟩ = some (.int .i64 x) ∧ (wA.setCell ⟨bi, 0, none⟩ (.int .i64 x)).cell? ⟨bi, 1, none⟩ = some (.bool yc) ∧ (wA.setCell ⟨bi, 0, none⟩ (.int .i64 x)).cell? ⟨bi, 2, none⟩ = some (.int .i64 yf) := ⟨kB, y0, y1, y2⟩
    clear sB2 sC2 kB y0 y1 y2 yff BA sB sC kA HSET
    go_wp2_with fail
    obtain ⟨wB, hwB⟩ : ∃ wB, wB = wA.setCell ⟨bi, 0, none⟩ (.int .i64 x) := ⟨_, rfl⟩
    rw [← hwB] at kC hset BB ⊢
    clear hwB x0 x1 x2 xf
    go_region_held3 (fun wx => (wx.cell? ⟨p, 0, none⟩ = some (.pointer (some ⟨pf, 0, none⟩)) ∧ wx.cell? ⟨p, 1, none⟩ = some (.slice (some ⟨bs, 0, none⟩) n cap) ∧ wx.cell? ⟨bs, v, none⟩ = some (.int .i64 ((v : Int) + 1))) ∧ wx.cell? ⟨bi, 0, none⟩ = some (.int .i64 x) ∧ wx.cell? ⟨bi, 1, none⟩ = some (.bool yc) ∧ wx.cell? ⟨bi, 2, none⟩ = some (.int .i64 yf)) (first | (with_reducible exact kD) | (with_reducible exact kC) | go_keep) ((go_at_call 51; refine hset.mono ?_; rintro e w5 ⟨rfl, o5, T5, s5, s6, k6⟩; have kD := item_keep (BB.step ((Step.refl (fun _ => False) _ _).drew) id) s6 k6))
    all_goals
      clear hset kC kD s6 k6 BB
      go_wp2
      go_ret
      exact ⟨rfl, o5, T5, s5⟩
  · have BA := ((B3.set 0 (.int .i64 yv)).set 1 (.bool yc)).set 2 (.int .i64 yf)
    have hbi : w.heap.size ≤ w.heap.size := Nat.le_refl _
    have hlb := B3.2
    have sB : Step (fun k => k = L + 1110) w o (((w3.setCell ⟨w.heap.size, 0, none⟩ (.int .i64 yv)).setCell ⟨w.heap.size, 1, none⟩ (.bool yc)).setCell ⟨w.heap.size, 2, none⟩ (.int .i64 yf)) (newLab w o (L + 1110)) := (((s3.mono fun _ h => h.elim).setCell _ _ hlb).setCell _ _ hlb).setCell _ _ hlb
    have sC : Step (FL L) w o (((w3.setCell ⟨w.heap.size, 0, none⟩ (.int .i64 yv)).setCell ⟨w.heap.size, 1, none⟩ (.bool yc)).setCell ⟨w.heap.size, 2, none⟩ (.int .i64 yf)) (newLab w o (L + 1110)) := (((s3.mono fun _ h => h.elim).setNew 0 _ hbi).setNew 1 _ hbi).setNew 2 _ hbi
    have kA := three_keep w3 w.heap.size p bs pf n cap v (.int .i64 yv) (.bool yc) (.int .i64 yf) hpb hbb k1
    have hpi := hpb
    have hbsi := hbb
    obtain ⟨wA, hwA⟩ : ∃ wA, wA = (((w3.setCell ⟨w.heap.size, 0, none⟩ (.int .i64 yv)).setCell ⟨w.heap.size, 1, none⟩ (.bool yc)).setCell ⟨w.heap.size, 2, none⟩ (.int .i64 yf)) := ⟨_, rfl⟩
    rw [← hwA] at BA sB sC kA ⊢
    obtain ⟨oA, hoA⟩ : ∃ oA, oA = newLab w o (L + 1110) := ⟨_, rfl⟩
    rw [← hoA] at BA sB sC
    have BA : Blk wA oA (L + 1110) w.heap.size (.cells #[.int .i64 yv, .bool yc, .int .i64 yf] 90 (0, 0)) := BA
    clear hwA hoA k1 s3 HG1 HG2 k0 B3 hlb z0 z1 z2 zf k2
    obtain ⟨bi, hbe⟩ : ∃ bi, bi = w.heap.size := ⟨_, rfl⟩
    rw [← hbe] at BA hpi hbsi ⊢
    have hbi : w.heap.size ≤ bi := by omega
    clear hbe
    obtain ⟨x0, x1, x2, xf⟩ := BA.cells3f
    have BB : Blk (wA.setCell ⟨bi, 0, none⟩ (.int .i64 x)) oA (L + 1110) bi (.cells #[.int .i64 x, .bool yc, .int .i64 yf] 90 (0, 0)) := BA.set 0 (.int .i64 x)
    have sB2 := sB.setCell ⟨bi, 0, none⟩ (.int .i64 x) BA.2
    have sC2 := sC.setNew 0 (.int .i64 x) hbi
    have hset := HSET.out _ oA sB2.drew sC2.drew
    have kB : (wA.setCell ⟨bi, 0, none⟩ (.int .i64 x)).cell? ⟨p, 0, none⟩ = some (.pointer (some ⟨pf, 0, none⟩)) ∧ (wA.setCell ⟨bi, 0, none⟩ (.int .i64 x)).cell? ⟨p, 1, none⟩ = some (.slice (some ⟨bs, 0, none⟩) n cap) ∧ (wA.setCell ⟨bi, 0, none⟩ (.int .i64 x)).cell? ⟨bs, v, none⟩ = some (.int .i64 ((v : Int) + 1)) :=
      ⟨(World.cell?_setCell_other _ _ _ _ (fun e => hpi (by injection e with e; exact e.symm))).trans kA.1, (World.cell?_setCell_other _ _ _ _ (fun e => hpi (by injection e with e; exact e.symm))).trans kA.2.1, (World.cell?_setCell_other _ _ _ _ (fun e => hbsi (by injection e with e; exact e.symm))).trans kA.2.2⟩
    obtain ⟨y0, y1, y2, yff⟩ := BB.cells3f
    have kC : ((wA.setCell ⟨bi, 0, none⟩ (.int .i64 x)).cell? ⟨p, 0, none⟩ = some (.pointer (some ⟨pf, 0, none⟩)) ∧ (wA.setCell ⟨bi, 0, none⟩ (.int .i64 x)).cell? ⟨p, 1, none⟩ = some (.slice (some ⟨bs, 0, none⟩) n cap) ∧ (wA.setCell ⟨bi, 0, none⟩ (.int .i64 x)).cell? ⟨bs, v, none⟩ = some (.int .i64 ((v : Int) + 1))) ∧ (wA.setCell ⟨bi, 0, none⟩ (.int .i64 x)).cell? ⟨bi, 0, none⟩ = some (.int .i64 x) ∧ (wA.setCell ⟨bi, 0, none⟩ (.int .i64 x)).cell? ⟨bi, 1, none⟩ = some (.bool yc) ∧ (wA.setCell ⟨bi, 0, none⟩ (.int .i64 x)).cell? ⟨bi, 2, none⟩ = some (.int .i64 yf) := ⟨kB, y0, y1, y2⟩
    clear sB2 sC2 kB y0 y1 y2 yff BA sB sC kA HSET
    go_wp2_with fail
    obtain ⟨wB, hwB⟩ : ∃ wB, wB = wA.setCell ⟨bi, 0, none⟩ (.int .i64 x) := ⟨_, rfl⟩
    rw [← hwB] at kC hset BB ⊢
    clear hwB x0 x1 x2 xf
    go_region_held3 (fun wx => (wx.cell? ⟨p, 0, none⟩ = some (.pointer (some ⟨pf, 0, none⟩)) ∧ wx.cell? ⟨p, 1, none⟩ = some (.slice (some ⟨bs, 0, none⟩) n cap) ∧ wx.cell? ⟨bs, v, none⟩ = some (.int .i64 ((v : Int) + 1))) ∧ wx.cell? ⟨bi, 0, none⟩ = some (.int .i64 x) ∧ wx.cell? ⟨bi, 1, none⟩ = some (.bool yc) ∧ wx.cell? ⟨bi, 2, none⟩ = some (.int .i64 yf)) (first | (with_reducible exact kD) | (with_reducible exact kC) | go_keep) ((go_at_call 51; refine hset.mono ?_; rintro e w5 ⟨rfl, o5, T5, s5, s6, k6⟩; have kD := item_keep (BB.step ((Step.refl (fun _ => False) _ _).drew) id) s6 k6))
    all_goals
      clear hset kC kD s6 k6 BB
      go_wp2
      go_ret
      exact ⟨rfl, o5, T5, s5⟩

end Go.Proofs.Ytnpfagpgploolaa
