/- Make, where a handle was free, and where there is no room. -/
import Derived.Test.YthdmajddmajjoaaMake
namespace Go.Proofs.Ythdmajddmajjoaa
open Go.ChangeShapes Go.WideShapes Go.ChangeAt Go.RowKit
set_option linter.unusedVariables false

set_option maxRecDepth 100000 in
theorem makePopF (w : World) (o : Nat → Nat) (L p room n : Nat) (fs : List Nat) (k : Nat) (it : Nat → It) (S : Nat → List Nat) (x : It) (F : Fo w o L p room n (fs ++ [k + 1]) it S) (hx : x.may) :
    Calls Try.prog 10 #[.pointer (some ⟨p, 0, none⟩), itemV x] w fun e w' => e = .returned (.tuple #[.int .i64 (k + 1 : Nat), .int .i64 0]) ∧ ∃ o', Fo w' o' L p room n fs (upd it (k + 1) x) (upd S (k + 1) [k + 1]) ∧ Step (FL L) w o w' o' := by
  obtain ⟨pt, nd, T, ⟨pa, cs, h0, h1, h2, h3⟩, H, e⟩ := F
  have hcl : cs.length = n := by obtain ⟨_, _, _, _, hh, _⟩ := h1; rw [hh.len]; omega
  obtain ⟨f, hf⟩ : ∃ f : Int, f = x.f := ⟨_, rfl⟩
  have hmb := mayB_of x hx
  have hc := fun wx => mayBe_any wx (newLab w o (L + 5)) x.v x.c x.f
  rw [hmb] at hc
  have i0 : Step (fun _ => False) w o (w.alloc (.cells #[.int .i64 x.v, .bool x.c, .int .i64 x.f] 36)) (newLab w o (L + 5)) := newStep _ _ _ _ _
  have B0 : Blk (w.alloc (.cells #[.int .i64 x.v, .bool x.c, .int .i64 x.f] 36)) (newLab w o (L + 5)) (L + 5) w.heap.size (.cells #[.int .i64 x.v, .bool x.c, .int .i64 x.f] 36 (0, 0)) := ⟨heap_alloc_new w _, newLab_new (Nat.le_refl _)⟩
  have nL : ¬ IL (L + 1) L := fun h => by have := h.1; omega
  have nL5 : ¬ IL (L + 1) (L + 5) := fun h => by have := h.2; omega
  have g0 := h0.step i0 id
  unfold itemR at hc
  unfold itemV
  have HC : Hid (∀ wx ox, Step (IL (L + 1)) (w.alloc (.cells #[.int .i64 x.v, .bool x.c, .int .i64 x.f] 36)) (newLab w o (L + 5)) wx ox → (wx.cell? ⟨p, 0, none⟩ = some (.pointer (some ⟨pa, 0, none⟩)) ∧ wx.cell? ⟨w.heap.size, 0, none⟩ = some (.int .i64 x.v) ∧ wx.cell? ⟨w.heap.size, 1, none⟩ = some (.bool x.c) ∧ wx.cell? ⟨w.heap.size, 2, none⟩ = some (.int .i64 x.f))) := fun wx ox s => by
    obtain ⟨b0, b1, b2, _⟩ := (B0.step s nL5).cells3
    exact ⟨(g0.step s nL).cells1.1, b0, b1, b2⟩
  go_enter Try.func10, Try.ntmps10
  go_wp2_with fail
  refine (hc _).mono ?_
  rintro e w1 ⟨rfl, s1⟩
  have t1 : Step (IL (L + 1)) _ _ w1 _ := s1.mono fun _ h => h.elim
  have t1d := t1.drew
  have i1d := (i0.trans s1).drew
  have hA1 := h1.step i1d (fun _ _ => id)
  clear hc
  go_wp2_with fail
  go_region_held (fun wx => wx.cell? ⟨p, 0, none⟩ = some (.pointer (some ⟨pa, 0, none⟩)) ∧ wx.cell? ⟨w.heap.size, 0, none⟩ = some (.int .i64 x.v) ∧ wx.cell? ⟨w.heap.size, 1, none⟩ = some (.bool x.c) ∧ wx.cell? ⟨w.heap.size, 2, none⟩ = some (.int .i64 x.f)) (first | (with_reducible exact HC.out _ _ tP) | (with_reducible exact HC.out _ _ (tC.alloc _)) | (with_reducible exact HC.out _ _ tC) | (with_reducible exact HC.out _ _ t1d)) ((first
    | (go_at_call 39; refine (single_sub w1.drew _ (newLab w o (L + 5)) x (Step.refl _ _ _)).mono ?_; rintro e wC ⟨rfl, sC⟩; have tC := t1d.trans (sC.mono fun _ h => h.elim); unfold sumsV)
    | (go_at_call 38; refine (putPopNod _ (newLab wC (newLab w o (L + 5)) (L + 5 + (k + 1))) (L + 1) pa room n cs fs k (some ⟨wC.heap.size, 0, none⟩) (hA1.step (sC.trans (newStep (fun _ => False) wC (newLab w o (L + 5)) (L + 5 + (k + 1)) _)) (fun _ _ => id))).mono ?_; rintro e wP ⟨rfl, oP, AP, sP⟩; have tP := (tC.trans (newStep (IL (L + 1)) wC (newLab w o (L + 5)) (L + 5 + (k + 1)) _)).trans sP)))
  all_goals
    have s2 := (i1d.trans sC).trans (newStep (fun _ => False) wC (newLab w o (L + 5)) (L + 5 + (k + 1)) (.cells (Nd.cells ⟨x, 0, 0, 0, 1, x.one⟩) 79))
    have hB : Blk (wC.alloc (.cells (Nd.cells ⟨x, 0, 0, 0, 1, x.one⟩) 79)) (newLab wC (newLab w o (L + 5)) (L + 5 + (k + 1))) (L + 5 + (k + 1)) wC.heap.size (.cells (Nd.cells ⟨x, 0, 0, 0, 1, x.one⟩) 79 (0, 0)) := ⟨heap_alloc_new wC _, newLab_new (Nat.le_refl _)⟩
    have hwf := h1.wf
    have hla := hwf.last
    have hnf : k + 1 ∉ fs := fun hm => (List.nodup_append.1 hwf.nodup).2.2 (k + 1) hm (k + 1) (by simp) rfl
    have hlive : ∀ j, Live n fs j → j ≠ k + 1 → Live n (fs ++ [k + 1]) j := fun j hj hne => ⟨hj.1, hj.2.1, by simp [hj.2.2, hne]⟩
    have FZ := Fm.made h0 h2 h3 s2 hB AP sP hlive (by omega) (by rw [Nat.add_sub_cancel, List.getElem?_set]; simp; omega) (fun j hj hne => by rw [List.getElem?_set]; rw [if_neg]; have := hj.1; omega)
    have HZ := H.make (live' := Live n fs) (N' := n) (h := k + 1) (fun hk => hk.2.2 (by simp)) (by omega) (fun j => ⟨fun hj => by by_cases e : j = k + 1; exact .inl e; exact .inr (hlive j hj e), fun hj => by rcases hj with rfl | hj; exact ⟨by omega, by omega, hnf⟩; exact ⟨hj.1, hj.2.1, fun hm => hj.2.2 (by simp [hm])⟩⟩) (fun j hj => hj.2.1) x hx
    have EZ := upd_it (n' := n) (free' := fs) (h := k + 1) (x := x) (y := ⟨x, 0, 0, 0, 1, x.one⟩) rfl e hlive
    have R := Fo.mk FZ HZ EZ
    have RS := (s2.ff (L := L)).trans (sP.mono (J := FL L) fun k hk => ⟨by have := hk.1; omega, by have := hk.2; omega⟩)
    clear HC t1 t1d i1d hA1 tC tP s2 hB FZ HZ EZ AP sP sC s1 i0 B0 g0 h0 h1 h3 H e
    go_wp2
    go_ret2
    exact ⟨rfl, oP, R, RS⟩

set_option maxRecDepth 100000 in
theorem makeFullF (w : World) (o : Nat → Nat) (L p room n : Nat) (free : List Nat) (it : Nat → It) (S : Nat → List Nat) (x : It) (F : Fo w o L p room n free it S) (hx : x.may) (hfull : n - free.length = room) :
    Calls Try.prog 10 #[.pointer (some ⟨p, 0, none⟩), itemV x] w fun e w' => e = .returned (.tuple #[.int .i64 0, .int .i64 30]) ∧ ∃ o', Step (fun _ => False) w o w' o' := by
  obtain ⟨pt, nd, T, ⟨pa, cs, h0, h1, h2, h3⟩, H, e⟩ := F
  have hcl : cs.length = n := by obtain ⟨_, _, _, _, hh, _⟩ := h1; rw [hh.len]; omega
  obtain ⟨f, hf⟩ : ∃ f : Int, f = x.f := ⟨_, rfl⟩
  have hmb := mayB_of x hx
  have hc := fun wx => mayBe_any wx (newLab w o (L + 5)) x.v x.c x.f
  rw [hmb] at hc
  have i0 : Step (fun _ => False) w o (w.alloc (.cells #[.int .i64 x.v, .bool x.c, .int .i64 x.f] 36)) (newLab w o (L + 5)) := newStep _ _ _ _ _
  have B0 : Blk (w.alloc (.cells #[.int .i64 x.v, .bool x.c, .int .i64 x.f] 36)) (newLab w o (L + 5)) (L + 5) w.heap.size (.cells #[.int .i64 x.v, .bool x.c, .int .i64 x.f] 36 (0, 0)) := ⟨heap_alloc_new w _, newLab_new (Nat.le_refl _)⟩
  have nL : ¬ IL (L + 1) L := fun h => by have := h.1; omega
  have nL5 : ¬ IL (L + 1) (L + 5) := fun h => by have := h.2; omega
  have g0 := h0.step i0 id
  unfold itemR at hc
  unfold itemV
  have HC : Hid (∀ wx ox, Step (IL (L + 1)) (w.alloc (.cells #[.int .i64 x.v, .bool x.c, .int .i64 x.f] 36)) (newLab w o (L + 5)) wx ox → (wx.cell? ⟨p, 0, none⟩ = some (.pointer (some ⟨pa, 0, none⟩)) ∧ wx.cell? ⟨w.heap.size, 0, none⟩ = some (.int .i64 x.v) ∧ wx.cell? ⟨w.heap.size, 1, none⟩ = some (.bool x.c) ∧ wx.cell? ⟨w.heap.size, 2, none⟩ = some (.int .i64 x.f))) := fun wx ox s => by
    obtain ⟨b0, b1, b2, _⟩ := (B0.step s nL5).cells3
    exact ⟨(g0.step s nL).cells1.1, b0, b1, b2⟩
  go_enter Try.func10, Try.ntmps10
  go_wp2_with fail
  refine (hc _).mono ?_
  rintro e w1 ⟨rfl, s1⟩
  have t1 : Step (IL (L + 1)) _ _ w1 _ := s1.mono fun _ h => h.elim
  have t1d := t1.drew
  have i1d := (i0.trans s1).drew
  have hA1 := h1.step i1d (fun _ _ => id)
  clear hc
  go_wp2_with fail
  go_region_held (fun wx => wx.cell? ⟨p, 0, none⟩ = some (.pointer (some ⟨pa, 0, none⟩)) ∧ wx.cell? ⟨w.heap.size, 0, none⟩ = some (.int .i64 x.v) ∧ wx.cell? ⟨w.heap.size, 1, none⟩ = some (.bool x.c) ∧ wx.cell? ⟨w.heap.size, 2, none⟩ = some (.int .i64 x.f)) (first | (with_reducible exact HC.out _ _ ((tC.alloc _).drewN _)) | (with_reducible exact HC.out _ _ (tC.alloc _)) | (with_reducible exact HC.out _ _ tC) | (with_reducible exact HC.out _ _ t1d)) ((first
    | (go_at_call 39; refine (single_sub w1.drew _ (newLab w o (L + 5)) x (Step.refl _ _ _)).mono ?_; rintro e wC ⟨rfl, sC⟩; have tC := t1d.trans (sC.mono fun _ h => h.elim); unfold sumsV)
    | (go_at_call 38; refine (putFullNod _ (newLab w o (L + 5)) (L + 1) pa room n cs free (some ⟨wC.heap.size, 0, none⟩) hfull (hA1.step (sC.alloc _) (fun _ _ => id))).mono ?_; rintro e wP ⟨rfl, mP, rfl⟩; have tP := (tC.alloc (.cells (Nd.cells ⟨x, 0, 0, 0, 1, x.one⟩) 79)).drewN mP)))
  all_goals
    have RS := ((i1d.trans sC).alloc (.cells (Nd.cells ⟨x, 0, 0, 0, 1, x.one⟩) 79)).drewN mP
    clear HC t1 t1d i1d hA1 tC tP sC s1 i0 B0 g0 h0 h1 h3 H e
    go_wp2
    go_ret2
    exact ⟨rfl, _, RS⟩

end Go.Proofs.Ythdmajddmajjoaa
