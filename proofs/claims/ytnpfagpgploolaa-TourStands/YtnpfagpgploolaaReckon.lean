/- A node's sums are taken together anew. -/
import Derived.Test.YtnpfagpgploolaaAnd
import Derived.Test.YtnpfagpgploolaaHang
namespace Go.Proofs.Ytnpfagpgploolaa
open Go.ChangeShapes Go.WideShapes Go.ChangeAt Go.RowKit
set_option linter.unusedVariables false

/-- What hangs at a side comes to the items X. -/
def Sub (n : Nat) (free : List Nat) (nd : Nat → Nd) (c : Nat) (X : List It) : Prop := (c = 0 ∧ X = []) ∨ (Live n free c ∧ (nd c).size = X.length ∧ (nd c).ag = agg X)

theorem whole_sub (w wx : World) (o : Nat → Nat) (L p room n : Nat) (free : List Nat) (pt : Nat → Nat) (nd : Nat → Nd) (c : Nat) (X : List It) (F : Fm w o L p room n free pt nd) (s : Step (fun _ => False) w o wx o) (hX : Sub n free nd c X) :
    Calls Try.prog 81 #[.pointer (some ⟨p, 0, none⟩), .int .i64 c] wx fun e w' => e = .returned (sumsV X.length (agg X)) ∧ Step (fun _ => False) w o w' o := by
  rcases hX with ⟨rfl, rfl⟩ | ⟨hl, h1, h2⟩
  · refine (wholeOut wx o L p room n free pt nd 0 (F.quiet s) (has0 n free)).mono ?_
    rintro e w' ⟨rfl, s'⟩
    exact ⟨rfl, s.trans s'⟩
  · refine (wholeIn wx o L p room n free pt nd c (F.quiet s) hl).mono ?_
    rintro e w' ⟨rfl, s'⟩
    exact ⟨by rw [h1, h2], s.trans s'⟩
theorem single_sub (w wx : World) (o : Nat → Nat) (x : It) (s : Step (fun _ => False) w o wx o) :
    Calls Try.prog 80 #[itemV x] wx fun e w' => e = .returned (sumsV 1 x.one) ∧ Step (fun _ => False) w o w' o := by
  refine (single_any wx o x).mono ?_
  rintro e w' ⟨rfl, s'⟩
  exact ⟨rfl, s.trans s'⟩
theorem and_sub (w wx : World) (o : Nat → Nat) (s t : Nat) (a b : Ag) (hs : s ≤ 4096) (ht : t ≤ 4096) (ha : a.bd s) (hb : b.bd t) (st : Step (fun _ => False) w o wx o) :
    Calls Try.prog 87 #[sumsV s a, sumsV t b] wx fun e w' => e = .returned (sumsV (s + t) (a.both b)) ∧ Step (fun _ => False) w o w' o := by
  refine (and_any wx o s t a b hs ht ha hb).mono ?_
  rintro e w' ⟨rfl, s'⟩
  exact ⟨rfl, st.trans s'⟩

def Nd.setSum (x : Nd) (s : Nat) (a : Ag) : Nd := { x with size := s, ag := a }

theorem six_cell (w : World) (b j : Nat) (hj : j < 6) (v6 v7 v8 v9 v10 v11 : Value) :
    ((((((w.setCell ⟨b, 6, none⟩ v6).setCell ⟨b, 7, none⟩ v7).setCell ⟨b, 8, none⟩ v8).setCell ⟨b, 9, none⟩ v9).setCell ⟨b, 10, none⟩ v10).setCell ⟨b, 11, none⟩ v11).cell? ⟨b, j, none⟩ = w.cell? ⟨b, j, none⟩ := by
  have ne : ∀ i, 6 ≤ i → (⟨b, i, none⟩ : Addr) ≠ ⟨b, j, none⟩ := fun i hi e => by injection e with _ e _; omega
  rw [World.cell?_setCell_other _ _ _ _ (ne 11 (by omega)), World.cell?_setCell_other _ _ _ _ (ne 10 (by omega)), World.cell?_setCell_other _ _ _ _ (ne 9 (by omega)), World.cell?_setCell_other _ _ _ _ (ne 8 (by omega)), World.cell?_setCell_other _ _ _ _ (ne 7 (by omega)), World.cell?_setCell_other _ _ _ _ (ne 6 (by omega))]
theorem upd_upd {α : Type} (f : Nat → α) (h : Nat) (x y : α) : upd (upd f h x) h y = upd f h y := by
  funext k
  unfold upd
  split <;> rfl
theorem Fm.set6 {w : World} {o : Nat → Nat} {L p room n : Nat} {free : List Nat} {pt : Nat → Nat} {nd : Nat → Nd} (h : Fm w o L p room n free pt nd) {k : Nat} (hl : Live n free k) (s : Nat) (a : Ag) :
    Fm ((((((w.setCell ⟨pt k, 6, none⟩ (.int .i64 s)).setCell ⟨pt k, 7, none⟩ (.int .i64 a.count)).setCell ⟨pt k, 8, none⟩ (.int .i64 a.sum)).setCell ⟨pt k, 9, none⟩ (.int .i64 a.least)).setCell ⟨pt k, 10, none⟩ (.int .i64 a.most)).setCell ⟨pt k, 11, none⟩ (.int .i64 a.flags)) o L p room n free pt (upd nd k ((nd k).setSum s a)) ∧
      Step (NL L) w o ((((((w.setCell ⟨pt k, 6, none⟩ (.int .i64 s)).setCell ⟨pt k, 7, none⟩ (.int .i64 a.count)).setCell ⟨pt k, 8, none⟩ (.int .i64 a.sum)).setCell ⟨pt k, 9, none⟩ (.int .i64 a.least)).setCell ⟨pt k, 10, none⟩ (.int .i64 a.most)).setCell ⟨pt k, 11, none⟩ (.int .i64 a.flags)) o := by
  obtain ⟨F1, S1⟩ := h.set hl 6 (.int .i64 s) { (nd k) with size := s } (by simp [Nd.cells])
  obtain ⟨F2, S2⟩ := F1.set hl 7 (.int .i64 a.count) { (nd k) with size := s, ag := { (nd k).ag with count := a.count } } (by simp [Nd.cells, upd_same])
  rw [upd_upd] at F2
  obtain ⟨F3, S3⟩ := F2.set hl 8 (.int .i64 a.sum) { (nd k) with size := s, ag := { (nd k).ag with count := a.count, sum := a.sum } } (by simp [Nd.cells, upd_same])
  rw [upd_upd] at F3
  obtain ⟨F4, S4⟩ := F3.set hl 9 (.int .i64 a.least) { (nd k) with size := s, ag := { (nd k).ag with count := a.count, sum := a.sum, least := a.least } } (by simp [Nd.cells, upd_same])
  rw [upd_upd] at F4
  obtain ⟨F5, S5⟩ := F4.set hl 10 (.int .i64 a.most) { (nd k) with size := s, ag := { (nd k).ag with count := a.count, sum := a.sum, least := a.least, most := a.most } } (by simp [Nd.cells, upd_same])
  rw [upd_upd] at F5
  obtain ⟨F6, S6⟩ := F5.set hl 11 (.int .i64 a.flags) ((nd k).setSum s a) (by simp [Nd.cells, upd_same, Nd.setSum])
  rw [upd_upd] at F6
  exact ⟨F6, ((((S1.trans S2).trans S3).trans S4).trans S5).trans S6⟩

set_option maxRecDepth 100000 in
set_option maxHeartbeats 4000000 in
theorem reckon_any (w : World) (o : Nat → Nat) (L p room n : Nat) (free : List Nat) (pt : Nat → Nat) (nd : Nat → Nd) (h : Nat) (X Y : List It) (F : Fm w o L p room n free pt nd) (hl : Live n free h)
    (hX : Sub n free nd (nd h).l X) (hY : Sub n free nd (nd h).r Y) (mX : ∀ x ∈ X, x.may) (mY : ∀ x ∈ Y, x.may) (mh : (nd h).it.may) (lX : X.length ≤ 1024) (lY : Y.length ≤ 1024) :
    Calls Try.prog 74 #[.pointer (some ⟨p, 0, none⟩), .int .i64 h] w fun e w' => e = .returned (.tuple #[]) ∧ Fm w' o L p room n free pt (upd nd h ((nd h).setSum (X.length + 1 + Y.length) (agg (X ++ (nd h).it :: Y)))) ∧ Step (NL L) w o w' o := by
  have hc := nodeIn w o L p room n free pt nd h F hl
  have bX := agg_bd X mX
  have bY := agg_bd Y mY
  have bh := one_bd _ mh
  have bXh := both_bd bX bh
  have HC : Hid (∀ wx, Step (fun _ => False) w o wx o → (wx.cell? ⟨pt h, 0, none⟩ = some (.int .i64 (nd h).it.v) ∧ wx.cell? ⟨pt h, 1, none⟩ = some (.bool (nd h).it.c) ∧ wx.cell? ⟨pt h, 2, none⟩ = some (.int .i64 (nd h).it.f) ∧ wx.cell? ⟨pt h, 4, none⟩ = some (.int .i64 (nd h).l) ∧ wx.cell? ⟨pt h, 5, none⟩ = some (.int .i64 (nd h).r))) := fun wx s => by
    obtain ⟨⟨c0, c1, c2⟩, c3, c4, c5, ⟨c6, c7, c8, c9, c10, c11⟩, hf⟩ := ((F.quiet s).node hl).cells12
    exact ⟨c0, c1, c2, c4, c5⟩
  have HD : Hid (∀ wx, Step (fun _ => False) w o wx o → ((wx.cell? ⟨pt h, 6, none⟩ = some (.int .i64 (nd h).size) ∧ wx.cell? ⟨pt h, 7, none⟩ = some (.int .i64 (nd h).ag.count) ∧ wx.cell? ⟨pt h, 8, none⟩ = some (.int .i64 (nd h).ag.sum) ∧ wx.cell? ⟨pt h, 9, none⟩ = some (.int .i64 (nd h).ag.least) ∧ wx.cell? ⟨pt h, 10, none⟩ = some (.int .i64 (nd h).ag.most) ∧ wx.cell? ⟨pt h, 11, none⟩ = some (.int .i64 (nd h).ag.flags)) ∧ ∀ j, wx.frozen? ⟨pt h, j, none⟩ = false)) := fun wx s => by
    obtain ⟨⟨c0, c1, c2⟩, c3, c4, c5, c6, hf⟩ := ((F.quiet s).node hl).cells12
    exact ⟨c6, hf⟩
  have s0 : Step (fun _ => False) w o w.drew o := (Step.refl _ w o).drew
  go_enter Try.func74, Try.ntmps74
  go_wp2_with fail
  refine hc.mono ?_
  rintro e w1 ⟨rfl, rfl⟩
  clear hc
  go_wp2_with fail
  go_region_held (fun wx => wx.cell? ⟨pt h, 0, none⟩ = some (.int .i64 (nd h).it.v) ∧ wx.cell? ⟨pt h, 1, none⟩ = some (.bool (nd h).it.c) ∧ wx.cell? ⟨pt h, 2, none⟩ = some (.int .i64 (nd h).it.f) ∧ wx.cell? ⟨pt h, 4, none⟩ = some (.int .i64 (nd h).l) ∧ wx.cell? ⟨pt h, 5, none⟩ = some (.int .i64 (nd h).r)) (first | (with_reducible exact HC.out _ sE) | (with_reducible exact HC.out _ sB) | (with_reducible exact HC.out _ sD) | (with_reducible exact HC.out _ sC) | (with_reducible exact HC.out _ sA) | (with_reducible exact HC.out _ s0) | (rw [six_cell _ _ 0 (by omega), six_cell _ _ 1 (by omega), six_cell _ _ 2 (by omega), six_cell _ _ 4 (by omega), six_cell _ _ 5 (by omega)]; exact HC.out _ sE)) ((first
    | (go_at_call 81; first | (refine (whole_sub w1 _ o L p room n free pt nd (nd h).r Y F sD hY).mono ?_; rintro e wB ⟨rfl, sB⟩) | (refine (whole_sub w1 _ o L p room n free pt nd (nd h).l X F s0 hX).mono ?_; rintro e wA ⟨rfl, sA⟩))
    | (go_at_call 80; refine (single_sub w1 _ o (nd h).it sA).mono ?_; rintro e wC ⟨rfl, sC⟩)
    | (go_at_call 87; first | (refine (and_sub w1 _ o (X.length + 1) Y.length ((agg X).both (nd h).it.one) (agg Y) (by omega) (by omega) bXh bY sB).mono ?_; rintro e wE ⟨rfl, sE⟩; obtain ⟨⟨e6, e7, e8, e9, e10, e11⟩, ef⟩ := HD.out _ sE; unfold sumsV) | (refine (and_sub w1 _ o X.length 1 (agg X) (nd h).it.one (by omega) (by omega) bX bh sC).mono ?_; rintro e wD ⟨rfl, sD⟩))))
  all_goals
    have R := (F.quiet sE).set6 hl (X.length + 1 + Y.length) (((agg X).both (nd h).it.one).both (agg Y))
    rw [← agg_mid] at R
    have e1 : ((X.length + 1 + Y.length : Nat) : Int) = (X.length : Int) + 1 + Y.length := by omega
    rw [e1] at R
    rw [← agg_mid]
    have sE2 := sE.mono (J := NL L) (fun _ h => h.elim)
    clear HC HD s0 sA sB sC sD bX bY bh bXh e6 e7 e8 e9 e10 e11 ef
    go_end0
    exact ⟨rfl, R.1, sE2.trans R.2⟩

end Go.Proofs.Ytnpfagpgploolaa
