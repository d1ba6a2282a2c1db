/- Set. -/
import Derived.Test.YthdmajddmajjoaaAsks
import Derived.Test.YthdmajddmajjoaaMake
namespace Go.Proofs.Ythdmajddmajjoaa
open Go.ChangeShapes Go.WideShapes Go.ChangeAt Go.RowKit
set_option linter.unusedVariables false

theorem getOutF (w : World) (o : Nat → Nat) (L p room n : Nat) (free : List Nat) (it : Nat → It) (S : Nat → List Nat) (x : Int) (F : Fo w o L p room n free it S) (hb : hasB n free x = false) :
    Calls Try.prog 25 #[.pointer (some ⟨p, 0, none⟩), .int .i64 x] w fun e w' => e = .returned (.tuple #[itemV ⟨0, false, 0⟩, .int .i64 31]) ∧ Step (fun _ => False) w o w' o := by
  obtain ⟨pt, nd, T, F, H, e⟩ := F
  have hc := fun wx s => nodeOut wx o L p room n free pt nd x (F.quiet s) hb
  clear F H e
  go_enter Try.func25, Try.ntmps25
  go_wp2_with fail
  refine (hc _ (newB _ _ _)).mono ?_
  rintro e w1 ⟨rfl, rfl⟩
  go_wp2
  exact bodyPost_ret (v := .tuple #[itemV ⟨0, false, 0⟩, .int .i64 31]) (by simp [results, Try.results25, go_sem, itemV]) rfl ⟨rfl, newB _ _ _⟩

theorem getInF (w : World) (o : Nat → Nat) (L p room n : Nat) (free : List Nat) (it : Nat → It) (S : Nat → List Nat) (a : Nat) (F : Fo w o L p room n free it S) (hl : Live n free a) :
    Calls Try.prog 25 #[.pointer (some ⟨p, 0, none⟩), .int .i64 a] w fun e w' => e = .returned (.tuple #[itemV (it a), .int .i64 0]) ∧ Step (fun _ => False) w o w' o := by
  obtain ⟨pt, nd, T, F, H, e⟩ := F
  have hc := fun wx s => nodeIn wx o L p room n free pt nd a (F.quiet s) hl
  have hlt := (F.node hl).lt
  obtain ⟨⟨c0, c1, c2⟩, _, _, _, _, hf⟩ := (F.node hl).cells12
  rw [e a hl] at c0 c1 c2
  clear F H e
  go_enter Try.func25, Try.ntmps25
  go_wp2_with fail
  refine (hc _ (newB _ _ _)).mono ?_
  rintro e w1 ⟨rfl, rfl⟩
  go_wp2
  exact bodyPost_ret (v := .tuple #[itemV (it a), .int .i64 0]) (by simp [results, Try.results25, go_sem, itemV]) rfl ⟨rfl, newB _ _ _⟩


end Go.Proofs.Ythdmajddmajjoaa
namespace Go.Proofs.Ythdmajddmajjoaa
open Go.ChangeShapes Go.WideShapes Go.ChangeAt Go.RowKit
set_option linter.unusedVariables false

theorem setOutF (w : World) (o : Nat → Nat) (L p room n : Nat) (free : List Nat) (it : Nat → It) (S : Nat → List Nat) (x : Int) (v : Int) (c : Bool) (f : Int) (F : Fo w o L p room n free it S) (hb : hasB n free x = false) :
    Calls Try.prog 20 #[.pointer (some ⟨p, 0, none⟩), .int .i64 x, itemR v c f] w fun e w' => e = .returned (.int .i64 31) ∧ Step (fun _ => False) w o w' o := by
  obtain ⟨pt, nd, T, F, H, e⟩ := F
  have hc := fun wx s => nodeOut wx o L p room n free pt nd x (F.quiet s) hb
  unfold itemR
  clear F H e
  go_enter Try.func20, Try.ntmps20
  go_wp2_with fail
  refine (hc _ (newB _ _ _)).mono ?_
  rintro e w1 ⟨rfl, rfl⟩
  go_wp2
  go_ret
  exact ⟨rfl, newB _ _ _⟩
theorem setBadF (w : World) (o : Nat → Nat) (L p room n : Nat) (free : List Nat) (it : Nat → It) (S : Nat → List Nat) (a : Nat) (v : Int) (c : Bool) (f : Int) (F : Fo w o L p room n free it S) (hl : Live n free a) (hb : mayB v f = false) :
    Calls Try.prog 20 #[.pointer (some ⟨p, 0, none⟩), .int .i64 a, itemR v c f] w fun e w' => e = .returned (.int .i64 1) ∧ Step (fun _ => False) w o w' o := by
  obtain ⟨pt, nd, T, F, H, e⟩ := F
  have hc := fun wx s => nodeIn wx o L p room n free pt nd a (F.quiet s) hl
  have hc2 := fun wx => mayBe_any wx o v c f
  rw [hb] at hc2
  unfold itemR at hc2 ⊢
  clear F H e
  go_enter Try.func20, Try.ntmps20
  go_wp2_with fail
  refine (hc _ (newB _ _ _)).mono ?_
  rintro e w1 ⟨rfl, rfl⟩
  go_wp2_with fail
  refine (hc2 _).mono ?_
  rintro e w2 ⟨rfl, s2⟩
  have R := (newB w o _).trans s2
  clear hc hc2 s2
  go_wp2
  go_ret
  exact ⟨rfl, R⟩

theorem three_cell (w : World) (b : Nat) (a : Addr) (h : a.block ≠ b) (v0 v1 v2 : Value) : (((w.setCell ⟨b, 0, none⟩ v0).setCell ⟨b, 1, none⟩ v1).setCell ⟨b, 2, none⟩ v2).cell? a = w.cell? a := by
  have ne : ∀ i, (⟨b, i, none⟩ : Addr) ≠ a := fun i e => h (by rw [← e])
  rw [World.cell?_setCell_other _ _ _ _ (ne 2), World.cell?_setCell_other _ _ _ _ (ne 1), World.cell?_setCell_other _ _ _ _ (ne 0)]
def Nd.setIt (y : Nd) (x : It) : Nd := { y with it := x }
theorem Fm.set3 {w : World} {o : Nat → Nat} {L p room n : Nat} {free : List Nat} {pt : Nat → Nat} {nd : Nat → Nd} (h : Fm w o L p room n free pt nd) {k : Nat} (hl : Live n free k) (x : It) :
    Fm (((w.setCell ⟨pt k, 0, none⟩ (.int .i64 x.v)).setCell ⟨pt k, 1, none⟩ (.bool x.c)).setCell ⟨pt k, 2, none⟩ (.int .i64 x.f)) o L p room n free pt (upd nd k ((nd k).setIt x)) ∧
      Step (NL L) w o (((w.setCell ⟨pt k, 0, none⟩ (.int .i64 x.v)).setCell ⟨pt k, 1, none⟩ (.bool x.c)).setCell ⟨pt k, 2, none⟩ (.int .i64 x.f)) o := by
  obtain ⟨F1, S1⟩ := h.set hl 0 (.int .i64 x.v) { (nd k) with it := { (nd k).it with v := x.v } } (by simp [Nd.cells])
  obtain ⟨F2, S2⟩ := F1.set hl 1 (.bool x.c) { (nd k) with it := { (nd k).it with v := x.v, c := x.c } } (by simp [Nd.cells, upd_same])
  rw [upd_upd] at F2
  obtain ⟨F3, S3⟩ := F2.set hl 2 (.int .i64 x.f) ((nd k).setIt x) (by simp [Nd.cells, upd_same, Nd.setIt])
  rw [upd_upd] at F3
  exact ⟨F3, (S1.trans S2).trans S3⟩

set_option maxRecDepth 100000 in
theorem setInF (w : World) (o : Nat → Nat) (L p room n : Nat) (free : List Nat) (it : Nat → It) (S : Nat → List Nat) (a : Nat) (x : It) (F : Fo w o L p room n free it S) (hl : Live n free a) (hx : x.may) :
    Calls Try.prog 20 #[.pointer (some ⟨p, 0, none⟩), .int .i64 a, itemV x] w fun e w' => e = .returned (.int .i64 0) ∧ ∃ o', Fo w' o' L p room n free (upd it a x) S ∧ Step (FL L) w o w' o' := by
  obtain ⟨pt, nd, T, F, H, e⟩ := F
  have hn := F.le
  have hmb := mayB_of x hx
  have hc2 := fun wx => mayBe_any wx (newLab w o (L + 5)) x.v x.c x.f
  rw [hmb] at hc2
  have i0 : Step (fun _ => False) w o (w.alloc (.cells #[.int .i64 x.v, .bool x.c, .int .i64 x.f] 36)) (newLab w o (L + 5)) := newStep _ _ _ _ _
  have B0 : Blk (w.alloc (.cells #[.int .i64 x.v, .bool x.c, .int .i64 x.f] 36)) (newLab w o (L + 5)) (L + 5) w.heap.size (.cells #[.int .i64 x.v, .bool x.c, .int .i64 x.f] 36 (0, 0)) := ⟨heap_alloc_new w _, newLab_new (Nat.le_refl _)⟩
  have nB : ¬ NL L (L + 5) := fun hx => by have := hx.1; omega
  have F0 := F.quiet i0
  have hc := nodeIn _ _ L p room n free pt nd a F0 hl
  unfold itemR at hc2
  unfold itemV
  have HC : Hid (∀ wx ox, Step (NL L) (w.alloc (.cells #[.int .i64 x.v, .bool x.c, .int .i64 x.f] 36)) (newLab w o (L + 5)) wx ox → (wx.cell? ⟨w.heap.size, 0, none⟩ = some (.int .i64 x.v) ∧ wx.cell? ⟨w.heap.size, 1, none⟩ = some (.bool x.c) ∧ wx.cell? ⟨w.heap.size, 2, none⟩ = some (.int .i64 x.f))) := fun wx ox s => by
    obtain ⟨b0, b1, b2, _⟩ := (B0.step s nB).cells3
    exact ⟨b0, b1, b2⟩
  have hne : w.heap.size ≠ pt a := fun e => by
    have h1 := (F0.node hl).2
    rw [← e, B0.2] at h1
    have := hl.1; omega
  go_enter Try.func20, Try.ntmps20
  go_wp2_with fail
  refine hc.mono ?_
  rintro e w1 ⟨rfl, rfl⟩
  go_wp2_with fail
  refine (hc2 _).mono ?_
  rintro e w2 ⟨rfl, s2⟩
  have F2 := (F0.quiet s2).quiet ((Step.refl (fun _ => False) w2 _).drew)
  have hc3 := lift_any _ _ L p room n free pt nd T S a F2 H hl
  have t2 : Step (NL L) _ _ w2.drew _ := (s2.mono fun _ h => h.elim).drew
  clear hc hc2
  go_wp2_with fail
  go_region_held (fun wx => wx.cell? ⟨w.heap.size, 0, none⟩ = some (.int .i64 x.v) ∧ wx.cell? ⟨w.heap.size, 1, none⟩ = some (.bool x.c) ∧ wx.cell? ⟨w.heap.size, 2, none⟩ = some (.int .i64 x.f)) (first | (with_reducible exact HC.out _ _ t3) | (with_reducible exact HC.out _ _ t2) | (rw [three_cell _ _ _ hne, three_cell _ _ _ hne, three_cell _ _ _ hne]; exact HC.out _ _ t3)) ((go_at_call 40; refine hc3.mono ?_; rintro e w3 ⟨rfl, nd3, T3, o3, F3, A3, S3⟩; have t3 := t2.trans S3; obtain ⟨⟨c0, c1, c2⟩, _, _, _, _, hf⟩ := (F3.node hl).cells12))
  all_goals
    obtain ⟨F4, S4⟩ := F3.set3 hl x
    have lenh := A3.tr.len hl
    have nl : (nd3 a).l ≠ a := fun e => by rw [e] at lenh; omega
    have nr : (nd3 a).r ≠ a := fun e => by rw [e] at lenh; omega
    have subl := A3.tr.subOf (c := (nd3 a).l) (fun x => (A3.tr.l a hl x).1) (upd nd3 a ((nd3 a).setIt x)) (fun _ => by rw [upd_other _ _ nl]) (fun _ => by rw [upd_other _ _ nl])
    have subr := A3.tr.subOf (c := (nd3 a).r) (fun x => (A3.tr.r a hl x).1) (upd nd3 a ((nd3 a).setIt x)) (fun _ => by rw [upd_other _ _ nr]) (fun _ => by rw [upd_other _ _ nr])
    have lA := A3.tr.lenT (fun e => (A3.tr.l a hl e).1)
    have lR := A3.tr.lenT (fun e => (A3.tr.r a hl e).1)
    have hc5 := reckon_any _ _ L p room n free pt _ a _ _ F4 hl (by rw [upd_same]; exact subl) (by rw [upd_same]; exact subr) (A3.tr.mayT (fun e => (A3.tr.l a hl e).1)) (A3.tr.mayT (fun e => (A3.tr.r a hl e).1)) (by rw [upd_same]; exact hx) (by simp; omega) (by simp; omega)
    rw [upd_upd, upd_same] at hc5
    have HZ := A3.tr.set hl A3.up x hx _ _ (show ((T3 (nd3 a).l).map fun k => (nd3 k).it).length + 1 + ((T3 (nd3 a).r).map fun k => (nd3 k).it).length = (T3 a).length by rw [lenh]; simp) rfl
    have EZ : ∀ k, Live n free k → ((upd nd3 a (((nd3 a).setIt x).setSum (((T3 (nd3 a).l).map fun k => (nd3 k).it).length + 1 + ((T3 (nd3 a).r).map fun k => (nd3 k).it).length) (agg ((T3 (nd3 a).l).map (fun k => (nd3 k).it) ++ ((nd3 a).setIt x).it :: (T3 (nd3 a).r).map fun k => (nd3 k).it)))) k).it = upd it a x k := fun k hk => by
      by_cases e2 : k = a
      · subst e2; rw [upd_same, upd_same]; rfl
      · rw [upd_other _ _ e2, upd_other _ _ e2]; exact A3.it' e k hk
    have RS := ((i0.ff (L := L)).trans t2.nf).trans (S3.nf.trans S4.nf)
    clear HC hc3 F F0 F2 F3 B0 t3 S3 S4 subl subr lA lR lenh nl nr t2 s2 i0 A3 c0 c1 c2 hf H e
    go_wp2_with fail
    refine hc5.mono ?_
    rintro e w6 ⟨rfl, F6, S6⟩
    have R := Fo.mk F6 HZ EZ
    have RT := RS.trans S6.nf
    clear hc5 F4 HZ EZ F6 S6 RS
    go_wp2
    go_ret
    exact ⟨rfl, _, R, RT⟩

end Go.Proofs.Ythdmajddmajjoaa
