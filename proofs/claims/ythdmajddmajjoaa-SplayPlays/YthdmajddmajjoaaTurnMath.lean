/- What the steps of a turn make of the nodes. No program. -/
import Derived.Test.YthdmajddmajjoaaHang
namespace Go.Proofs.Ythdmajddmajjoaa
open Go.ChangeShapes Go.WideShapes Go.ChangeAt Go.RowKit
set_option linter.unusedVariables false

/-- What hangs at a side comes to the items X. -/
def Sub (n : Nat) (free : List Nat) (nd : Nat → Nd) (c : Nat) (X : List It) : Prop := (c = 0 ∧ X = []) ∨ (Live n free c ∧ (nd c).size = X.length ∧ (nd c).ag = agg X)

theorem whole_sub (w wx : World) (o : Nat → Nat) (L p room n : Nat) (free : List Nat) (pt : Nat → Nat) (nd : Nat → Nd) (c : Nat) (X : List It) (F : Fm w o L p room n free pt nd) (s : Step (fun _ => False) w o wx o) (hX : Sub n free nd c X) :
    Calls Try.prog 44 #[.pointer (some ⟨p, 0, none⟩), .int .i64 c] wx fun e w' => e = .returned (sumsV X.length (agg X)) ∧ Step (fun _ => False) w o w' o := by
  rcases hX with ⟨rfl, rfl⟩ | ⟨hl, h1, h2⟩
  · refine (wholeOut wx o L p room n free pt nd 0 (F.quiet s) (has0 n free)).mono ?_
    rintro e w' ⟨rfl, s'⟩
    exact ⟨rfl, s.trans s'⟩
  · refine (wholeIn wx o L p room n free pt nd c (F.quiet s) hl).mono ?_
    rintro e w' ⟨rfl, s'⟩
    exact ⟨by rw [h1, h2], s.trans s'⟩
theorem single_sub (w wx : World) (o : Nat → Nat) (x : It) (s : Step (fun _ => False) w o wx o) :
    Calls Try.prog 39 #[itemV x] wx fun e w' => e = .returned (sumsV 1 x.one) ∧ Step (fun _ => False) w o w' o := by
  refine (single_any wx o x).mono ?_
  rintro e w' ⟨rfl, s'⟩
  exact ⟨rfl, s.trans s'⟩
theorem and_sub (w wx : World) (o : Nat → Nat) (s t : Nat) (a b : Ag) (hs : s ≤ 4096) (ht : t ≤ 4096) (ha : a.bd s) (hb : b.bd t) (st : Step (fun _ => False) w o wx o) :
    Calls Try.prog 59 #[sumsV s a, sumsV t b] wx fun e w' => e = .returned (sumsV (s + t) (a.both b)) ∧ Step (fun _ => False) w o w' o := by
  refine (and_any wx o s t a b hs ht ha hb).mono ?_
  rintro e w' ⟨rfl, s'⟩
  exact ⟨rfl, st.trans s'⟩

def Nd.setSum (x : Nd) (s : Nat) (a : Ag) : Nd := { x with size := s, ag := a }

theorem six_cell (w : World) (b j : Nat) (hj : j < 6) (v6 v7 v8 v9 v10 v11 : Value) :
    ((((((w.setCell ⟨b, 6, none⟩ v6).setCell ⟨b, 7, none⟩ v7).setCell ⟨b, 8, none⟩ v8).setCell ⟨b, 9, none⟩ v9).setCell ⟨b, 10, none⟩ v10).setCell ⟨b, 11, none⟩ v11).cell? ⟨b, j, none⟩ = w.cell? ⟨b, j, none⟩ := by
  have ne : ∀ i, 6 ≤ i → (⟨b, i, none⟩ : Addr) ≠ ⟨b, j, none⟩ := fun i hi e => by injection e with _ e _; omega
  rw [World.cell?_setCell_other _ _ _ _ (ne 11 (by omega)), World.cell?_setCell_other _ _ _ _ (ne 10 (by omega)), World.cell?_setCell_other _ _ _ _ (ne 9 (by omega)), World.cell?_setCell_other _ _ _ _ (ne 8 (by omega)), World.cell?_setCell_other _ _ _ _ (ne 7 (by omega)), World.cell?_setCell_other _ _ _ _ (ne 6 (by omega))]
theorem upd_upd {α : Type} (f : Nat → α) (h : Nat) (x y : α) : upd (upd f h x) h y = upd f h y := by
  funext k
  unfold upd
  split <;> rfl
theorem Fm.set6 {w : World} {o : Nat → Nat} {L p room n : Nat} {free : List Nat} {pt : Nat → Nat} {nd : Nat → Nd} (h : Fm w o L p room n free pt nd) {k : Nat} (hl : Live n free k) (s : Nat) (a : Ag) :
    Fm ((((((w.setCell ⟨pt k, 6, none⟩ (.int .i64 s)).setCell ⟨pt k, 7, none⟩ (.int .i64 a.count)).setCell ⟨pt k, 8, none⟩ (.int .i64 a.sum)).setCell ⟨pt k, 9, none⟩ (.int .i64 a.least)).setCell ⟨pt k, 10, none⟩ (.int .i64 a.most)).setCell ⟨pt k, 11, none⟩ (.int .i64 a.flags)) o L p room n free pt (upd nd k ((nd k).setSum s a)) ∧
      Step (NL L) w o ((((((w.setCell ⟨pt k, 6, none⟩ (.int .i64 s)).setCell ⟨pt k, 7, none⟩ (.int .i64 a.count)).setCell ⟨pt k, 8, none⟩ (.int .i64 a.sum)).setCell ⟨pt k, 9, none⟩ (.int .i64 a.least)).setCell ⟨pt k, 10, none⟩ (.int .i64 a.most)).setCell ⟨pt k, 11, none⟩ (.int .i64 a.flags)) o := by
  obtain ⟨F1, S1⟩ := h.set hl 6 (.int .i64 s) { (nd k) with size := s } (by simp [Nd.cells])
  obtain ⟨F2, S2⟩ := F1.set hl 7 (.int .i64 a.count) { (nd k) with size := s, ag := { (nd k).ag with count := a.count } } (by simp [Nd.cells, upd_same])
  rw [upd_upd] at F2
  obtain ⟨F3, S3⟩ := F2.set hl 8 (.int .i64 a.sum) { (nd k) with size := s, ag := { (nd k).ag with count := a.count, sum := a.sum } } (by simp [Nd.cells, upd_same])
  rw [upd_upd] at F3
  obtain ⟨F4, S4⟩ := F3.set hl 9 (.int .i64 a.least) { (nd k) with size := s, ag := { (nd k).ag with count := a.count, sum := a.sum, least := a.least } } (by simp [Nd.cells, upd_same])
  rw [upd_upd] at F4
  obtain ⟨F5, S5⟩ := F4.set hl 10 (.int .i64 a.most) { (nd k) with size := s, ag := { (nd k).ag with count := a.count, sum := a.sum, least := a.least, most := a.most } } (by simp [Nd.cells, upd_same])
  rw [upd_upd] at F5
  obtain ⟨F6, S6⟩ := F5.set hl 11 (.int .i64 a.flags) ((nd k).setSum s a) (by simp [Nd.cells, upd_same, Nd.setSum])
  rw [upd_upd] at F6
  exact ⟨F6, ((((S1.trans S2).trans S3).trans S4).trans S5).trans S6⟩

set_option maxRecDepth 100000 in
set_option maxHeartbeats 4000000 in
theorem reckon_any (w : World) (o : Nat → Nat) (L p room n : Nat) (free : List Nat) (pt : Nat → Nat) (nd : Nat → Nd) (h : Nat) (X Y : List It) (F : Fm w o L p room n free pt nd) (hl : Live n free h)
    (hX : Sub n free nd (nd h).l X) (hY : Sub n free nd (nd h).r Y) (mX : ∀ x ∈ X, x.may) (mY : ∀ x ∈ Y, x.may) (mh : (nd h).it.may) (lX : X.length ≤ 1024) (lY : Y.length ≤ 1024) :
    Calls Try.prog 43 #[.pointer (some ⟨p, 0, none⟩), .int .i64 h] w fun e w' => e = .returned (.tuple #[]) ∧ Fm w' o L p room n free pt (upd nd h ((nd h).setSum (X.length + 1 + Y.length) (agg (X ++ (nd h).it :: Y)))) ∧ Step (NL L) w o w' o := by
  have hc := nodeIn w o L p room n free pt nd h F hl
  have bX := agg_bd X mX
  have bY := agg_bd Y mY
  have bh := one_bd _ mh
  have bXh := both_bd bX bh
  have HC : Hid (∀ wx, Step (fun _ => False) w o wx o → (wx.cell? ⟨pt h, 0, none⟩ = some (.int .i64 (nd h).it.v) ∧ wx.cell? ⟨pt h, 1, none⟩ = some (.bool (nd h).it.c) ∧ wx.cell? ⟨pt h, 2, none⟩ = some (.int .i64 (nd h).it.f) ∧ wx.cell? ⟨pt h, 4, none⟩ = some (.int .i64 (nd h).l) ∧ wx.cell? ⟨pt h, 5, none⟩ = some (.int .i64 (nd h).r))) := fun wx s => by
    obtain ⟨⟨c0, c1, c2⟩, c3, c4, c5, ⟨c6, c7, c8, c9, c10, c11⟩, hf⟩ := ((F.quiet s).node hl).cells12
    exact ⟨c0, c1, c2, c4, c5⟩
  have HD : Hid (∀ wx, Step (fun _ => False) w o wx o → ((wx.cell? ⟨pt h, 6, none⟩ = some (.int .i64 (nd h).size) ∧ wx.cell? ⟨pt h, 7, none⟩ = some (.int .i64 (nd h).ag.count) ∧ wx.cell? ⟨pt h, 8, none⟩ = some (.int .i64 (nd h).ag.sum) ∧ wx.cell? ⟨pt h, 9, none⟩ = some (.int .i64 (nd h).ag.least) ∧ wx.cell? ⟨pt h, 10, none⟩ = some (.int .i64 (nd h).ag.most) ∧ wx.cell? ⟨pt h, 11, none⟩ = some (.int .i64 (nd h).ag.flags)) ∧ ∀ j, wx.frozen? ⟨pt h, j, none⟩ = false)) := fun wx s => by
    obtain ⟨⟨c0, c1, c2⟩, c3, c4, c5, c6, hf⟩ := ((F.quiet s).node hl).cells12
    exact ⟨c6, hf⟩
  have s0 : Step (fun _ => False) w o w.drew o := (Step.refl _ w o).drew
  go_enter Try.func43, Try.ntmps43
  go_wp2_with fail
  refine hc.mono ?_
  rintro e w1 ⟨rfl, rfl⟩
  clear hc
  go_wp2_with fail
  go_region_held (fun wx => wx.cell? ⟨pt h, 0, none⟩ = some (.int .i64 (nd h).it.v) ∧ wx.cell? ⟨pt h, 1, none⟩ = some (.bool (nd h).it.c) ∧ wx.cell? ⟨pt h, 2, none⟩ = some (.int .i64 (nd h).it.f) ∧ wx.cell? ⟨pt h, 4, none⟩ = some (.int .i64 (nd h).l) ∧ wx.cell? ⟨pt h, 5, none⟩ = some (.int .i64 (nd h).r)) (first | (with_reducible exact HC.out _ sE) | (with_reducible exact HC.out _ sB) | (with_reducible exact HC.out _ sD) | (with_reducible exact HC.out _ sC) | (with_reducible exact HC.out _ sA) | (with_reducible exact HC.out _ s0) | (rw [six_cell _ _ 0 (by omega), six_cell _ _ 1 (by omega), six_cell _ _ 2 (by omega), six_cell _ _ 4 (by omega), six_cell _ _ 5 (by omega)]; exact HC.out _ sE)) ((first
    | (go_at_call 44; first | (refine (whole_sub w1 _ o L p room n free pt nd (nd h).r Y F sD hY).mono ?_; rintro e wB ⟨rfl, sB⟩) | (refine (whole_sub w1 _ o L p room n free pt nd (nd h).l X F s0 hX).mono ?_; rintro e wA ⟨rfl, sA⟩))
    | (go_at_call 39; refine (single_sub w1 _ o (nd h).it sA).mono ?_; rintro e wC ⟨rfl, sC⟩)
    | (go_at_call 59; first | (refine (and_sub w1 _ o (X.length + 1) Y.length ((agg X).both (nd h).it.one) (agg Y) (by omega) (by omega) bXh bY sB).mono ?_; rintro e wE ⟨rfl, sE⟩; obtain ⟨⟨e6, e7, e8, e9, e10, e11⟩, ef⟩ := HD.out _ sE; unfold sumsV) | (refine (and_sub w1 _ o X.length 1 (agg X) (nd h).it.one (by omega) (by omega) bX bh sC).mono ?_; rintro e wD ⟨rfl, sD⟩))))
  all_goals
    have R := (F.quiet sE).set6 hl (X.length + 1 + Y.length) (((agg X).both (nd h).it.one).both (agg Y))
    rw [← agg_mid] at R
    have e1 : ((X.length + 1 + Y.length : Nat) : Int) = (X.length : Int) + 1 + Y.length := by omega
    rw [e1] at R
    rw [← agg_mid]
    have sE2 := sE.mono (J := NL L) (fun _ h => h.elim)
    clear HC HD s0 sA sB sC sD bX bY bh bXh e6 e7 e8 e9 e10 e11 ef
    go_end0
    exact ⟨rfl, R.1, sE2.trans R.2⟩

end Go.Proofs.Ythdmajddmajjoaa
namespace Go.Proofs.Ythdmajddmajjoaa
open Go.ChangeShapes Go.WideShapes Go.ChangeAt Go.RowKit
set_option linter.unusedVariables false

theorem hangN_l (nd : Nat → Nd) (h s b k : Nat) : (hangN nd h s b k).l = if k = h ∧ s = 0 then b else (nd k).l := by
  unfold hangN upd Nd.setCh Nd.setUp
  by_cases h1 : b = 0 <;> by_cases h2 : k = h <;> by_cases h3 : s = 0 <;> by_cases h4 : k = b <;> simp_all
theorem hangN_r (nd : Nat → Nd) (h s b k : Nat) : (hangN nd h s b k).r = if k = h ∧ s ≠ 0 then b else (nd k).r := by
  unfold hangN upd Nd.setCh Nd.setUp
  by_cases h1 : b = 0 <;> by_cases h2 : k = h <;> by_cases h3 : s = 0 <;> by_cases h4 : k = b <;> simp_all
theorem hangN_up (nd : Nat → Nd) (h s b k : Nat) : (hangN nd h s b k).up = if k = b ∧ b ≠ 0 then h else (nd k).up := by
  unfold hangN upd Nd.setCh Nd.setUp
  by_cases h1 : b = 0 <;> by_cases h2 : k = h <;> by_cases h3 : s = 0 <;> by_cases h4 : k = b <;> simp_all
theorem hangN_rest (nd : Nat → Nd) (h s b k : Nat) : (hangN nd h s b k).it = (nd k).it ∧ (hangN nd h s b k).size = (nd k).size ∧ (hangN nd h s b k).ag = (nd k).ag := by
  unfold hangN upd Nd.setCh Nd.setUp
  by_cases h1 : b = 0 <;> by_cases h2 : k = h <;> by_cases h3 : s = 0 <;> by_cases h4 : k = b <;> simp_all
theorem hangN_other (nd : Nat → Nd) {h s b k : Nat} (h1 : k ≠ h) (h2 : k ≠ b) : hangN nd h s b k = nd k := by
  unfold hangN
  split
  · exact upd_other _ _ h1
  · rw [upd_other _ _ h2, upd_other _ _ h1]
/-- The first step of a turn: what hung on the upper node's own place. -/
def turn1 (nd : Nat → Nd) (h u ov : Nat) : Nat → Nd := if ov = 0 then upd nd h ((nd h).setUp 0) else hangN nd ov (if (nd ov).l = u then 0 else 1) h
theorem turn1_l (nd : Nat → Nd) (h u ov k : Nat) : (turn1 nd h u ov k).l = if k = ov ∧ ov ≠ 0 ∧ (nd ov).l = u then h else (nd k).l := by
  unfold turn1
  split
  · next e => simp [e, upd, Nd.setUp]; split <;> simp_all
  · next e => rw [hangN_l]; by_cases e2 : (nd ov).l = u <;> simp [e, e2]
theorem turn1_r (nd : Nat → Nd) (h u ov k : Nat) : (turn1 nd h u ov k).r = if k = ov ∧ ov ≠ 0 ∧ (nd ov).l ≠ u then h else (nd k).r := by
  unfold turn1
  split
  · next e => simp [e, upd, Nd.setUp]; split <;> simp_all
  · next e => rw [hangN_r]; by_cases e2 : (nd ov).l = u <;> simp [e, e2]
theorem turn1_up (nd : Nat → Nd) {h : Nat} (h0 : h ≠ 0) (u ov k : Nat) : (turn1 nd h u ov k).up = if k = h then ov else (nd k).up := by
  unfold turn1
  split
  · next e => simp [e, upd, Nd.setUp]; split <;> simp_all
  · next e => rw [hangN_up]; simp [h0]
theorem turn1_rest (nd : Nat → Nd) (h u ov k : Nat) : (turn1 nd h u ov k).it = (nd k).it ∧ (turn1 nd h u ov k).size = (nd k).size ∧ (turn1 nd h u ov k).ag = (nd k).ag := by
  unfold turn1
  split
  · next e => simp [upd, Nd.setUp]; split <;> simp_all
  · exact hangN_rest nd _ _ _ k
theorem turn1_other (nd : Nat → Nd) {h u ov k : Nat} (h1 : k ≠ h) (h2 : k ≠ ov) : turn1 nd h u ov k = nd k := by
  unfold turn1
  split
  · exact upd_other _ _ h1
  · exact hangN_other _ h2 h1
def turn3 (nd : Nat → Nd) (h u s m ov : Nat) : Nat → Nd := hangN (hangN (turn1 nd h u ov) u s m) h (1 - s) u
theorem turn3_rest (nd : Nat → Nd) (h u s m ov k : Nat) : (turn3 nd h u s m ov k).it = (nd k).it ∧ (turn3 nd h u s m ov k).size = (nd k).size ∧ (turn3 nd h u s m ov k).ag = (nd k).ag := by
  unfold turn3
  have h1 := hangN_rest (hangN (turn1 nd h u ov) u s m) h (1 - s) u k
  have h2 := hangN_rest (turn1 nd h u ov) u s m k
  have h3 := turn1_rest nd h u ov k
  exact ⟨h1.1.trans (h2.1.trans h3.1), h1.2.1.trans (h2.2.1.trans h3.2.1), h1.2.2.trans (h2.2.2.trans h3.2.2)⟩
theorem turn3_other (nd : Nat → Nd) {h u s m ov k : Nat} (h1 : k ≠ h) (h2 : k ≠ u) (h3 : k ≠ m) (h4 : k ≠ ov) : turn3 nd h u s m ov k = nd k := by
  unfold turn3
  rw [hangN_other _ h1 h2, hangN_other _ h2 h3, turn1_other _ h1 h4]
/-- All steps. -/
def turn5 (nd : Nat → Nd) (h u s m ov su sh : Nat) (au ah : Ag) : Nat → Nd :=
  upd (upd (turn3 nd h u s m ov) u ((turn3 nd h u s m ov u).setSum su au)) h ((upd (turn3 nd h u s m ov) u ((turn3 nd h u s m ov u).setSum su au) h).setSum sh ah)
theorem turn5_links (nd : Nat → Nd) (h u s m ov su sh : Nat) (au ah : Ag) (k : Nat) : (turn5 nd h u s m ov su sh au ah k).l = (turn3 nd h u s m ov k).l ∧ (turn5 nd h u s m ov su sh au ah k).r = (turn3 nd h u s m ov k).r ∧ (turn5 nd h u s m ov su sh au ah k).up = (turn3 nd h u s m ov k).up ∧ (turn5 nd h u s m ov su sh au ah k).it = (turn3 nd h u s m ov k).it := by
  unfold turn5 upd Nd.setSum
  by_cases h1 : k = h <;> by_cases h2 : k = u <;> simp_all
theorem turn5_other (nd : Nat → Nd) (h u s m ov su sh : Nat) (au ah : Ag) {k : Nat} (h1 : k ≠ h) (h2 : k ≠ u) : turn5 nd h u s m ov su sh au ah k = turn3 nd h u s m ov k := by
  unfold turn5
  rw [upd_other _ _ h1, upd_other _ _ h2]
theorem turn5_h (nd : Nat → Nd) (h u s m ov su sh : Nat) (au ah : Ag) : (turn5 nd h u s m ov su sh au ah h).size = sh ∧ (turn5 nd h u s m ov su sh au ah h).ag = ah := by
  unfold turn5
  rw [upd_same]
  exact ⟨rfl, rfl⟩
theorem turn5_u (nd : Nat → Nd) (h u s m ov su sh : Nat) (au ah : Ag) (hu : u ≠ h) : (turn5 nd h u s m ov su sh au ah u).size = su ∧ (turn5 nd h u s m ov su sh au ah u).ag = au := by
  unfold turn5
  rw [upd_other _ _ hu, upd_same]
  exact ⟨rfl, rfl⟩

variable {live : Nat → Prop} {N : Nat} {nd : Nat → Nd} {T S : Nat → List Nat}

/-- Who stands near a node that hangs on another one. -/
structure Near (live : Nat → Prop) (nd : Nat → Nd) (h u ov : Nat) : Prop where
  lu : live u
  hu : h ≠ u
  l1 : (nd h).l ≠ h
  l2 : (nd h).l ≠ u
  r1 : (nd h).r ≠ h
  r2 : (nd h).r ≠ u
  ul : (nd u).l ≠ u
  ur : (nd u).r ≠ u
  o1 : ov ≠ h
  o2 : ov ≠ u
  ol : (nd h).l ≠ 0 → (nd h).l ≠ ov
  or : (nd h).r ≠ 0 → (nd h).r ≠ ov
  inl : ∀ k, live k → (nd k).l = u → k = ov ∧ ov ≠ 0
  inr : ∀ k, live k → (nd k).r = u → k = ov ∧ ov ≠ 0
  both : ov ≠ 0 → live ov ∧ ((nd ov).l = u ∨ (nd ov).r = u)
  lr : ov ≠ 0 → (nd ov).l = u → (nd ov).r ≠ u
theorem Tr.near (H : Tr live N nd T S) {h u : Nat} (hl : live h) (hu : (nd h).up = u) (hu0 : u ≠ 0) : Near live nd h u (nd u).up := by
  obtain ⟨lu, hSu, hc⟩ := H.u h hl (by rw [hu]; exact hu0)
  rw [hu] at lu hSu hc
  have lenu := H.len lu
  have lenh := H.len hl
  have hlt := H.up_lt hl (by rw [hu]; exact hu0)
  rw [hu] at hlt
  have hov : (nd u).up ≠ 0 → (T u).length < (T (nd u).up).length := fun e => H.up_lt lu e
  have h0 := H.ne0 hl
  have small : ∀ c, (T c).length < (T u).length → c ≠ 0 → c ≠ (nd u).up := fun c hc c0 e => by
    have := hov (by rw [← e]; exact c0)
    rw [← e] at this; omega
  refine ⟨lu, fun e => by rw [e] at hlt; omega, fun e => by rw [e] at lenh; omega, fun e => by rw [e] at lenh; omega, fun e => by rw [e] at lenh; omega, fun e => by rw [e] at lenh; omega, fun e => by rw [e] at lenu; omega, fun e => by rw [e] at lenu; omega,
    fun e => small h hlt h0 e.symm, fun e => by have := hov (by rw [e]; exact hu0); rw [e] at this; omega, fun e => small _ (by omega) e, fun e => small _ (by omega) e, ?_, ?_, ?_, ?_⟩
  · intro k lk e
    have := (H.l k lk (by rw [e]; exact hu0)).2
    rw [e] at this
    exact ⟨this.symm, by rw [this]; exact H.ne0 lk⟩
  · intro k lk e
    have := (H.r k lk (by rw [e]; exact hu0)).2
    rw [e] at this
    exact ⟨this.symm, by rw [this]; exact H.ne0 lk⟩
  · intro e
    obtain ⟨p1, p2, p3⟩ := H.u u lu e
    exact ⟨p1, p3⟩
  · intro e e2 e3
    obtain ⟨p1, p2, p3⟩ := H.u u lu e
    exact H.lr p1 (by rw [e2]; exact hu0) (e2.trans e3.symm)

theorem turn3R {h u ov : Nat} (H : Near live nd h u ov) (h0 : h ≠ 0) (hu0 : u ≠ 0) (k : Nat) (lk : live k) :
    (turn3 nd h u 0 (nd h).r ov k).l = (if k = h then (nd h).l else if k = u then (nd h).r else if (nd k).l = u then h else (nd k).l) ∧
    (turn3 nd h u 0 (nd h).r ov k).r = (if k = h then u else if k = u then (nd u).r else if (nd k).r = u then h else (nd k).r) ∧
    (k ≠ 0 → (turn3 nd h u 0 (nd h).r ov k).up = (if k = h then ov else if k = u then h else if k = (nd h).r then u else (nd k).up)) := by
  obtain ⟨lu, hu, l1, l2, r1, r2, ul, ur, o1, o2, ol, or, inl, inr, both, lr⟩ := H
  refine ⟨?_, ?_, ?_⟩
  · unfold turn3
    simp only [hangN_l, turn1_l]
    by_cases k1 : k = h
    · subst k1
      simp [hu, Ne.symm o1]
    · by_cases k2 : k = u
      · subst k2; simp [k1]
      · simp only [k1, k2, false_and, if_false]
        by_cases k3 : (nd k).l = u
        · obtain ⟨e1, e2⟩ := inl k lk k3
          rw [e1] at k3 ⊢
          simp [e2, k3]
        · rw [if_neg k3, if_neg]
          rintro ⟨e1, e2, e3⟩
          rw [e1] at k3; exact k3 e3
  · unfold turn3
    simp only [hangN_r, turn1_r]
    by_cases k1 : k = h
    · subst k1; simp
    · by_cases k2 : k = u
      · subst k2
        simp [k1, Ne.symm o2]
      · simp only [k1, k2, false_and, if_false]
        by_cases k3 : (nd k).r = u
        · obtain ⟨e1, e2⟩ := inr k lk k3
          rw [e1] at k3 ⊢
          have : (nd ov).l ≠ u := fun e => lr e2 e k3
          simp [e2, k3, this]
        · rw [if_neg k3, if_neg]
          rintro ⟨e1, e2, e3⟩
          rw [e1] at k3
          rcases (both e2).2 with e | e
          · exact e3 e
          · exact k3 e
  · intro k0
    unfold turn3
    simp only [hangN_up, turn1_up nd h0]
    by_cases k1 : k = h
    · subst k1
      simp [hu, Ne.symm r1]
    · by_cases k2 : k = u
      · subst k2; simp [k1, k0]
      · simp only [k1, k2, false_and, if_false]
        by_cases k3 : k = (nd h).r
        · rw [if_pos k3, if_pos ⟨k3, by rw [← k3]; exact k0⟩]
        · rw [if_neg k3, if_neg]
          rintro ⟨e, _⟩; exact k3 e
theorem turn3L {h u ov : Nat} (H : Near live nd h u ov) (h0 : h ≠ 0) (hu0 : u ≠ 0) (k : Nat) (lk : live k) :
    (turn3 nd h u 1 (nd h).l ov k).l = (if k = h then u else if k = u then (nd u).l else if (nd k).l = u then h else (nd k).l) ∧
    (turn3 nd h u 1 (nd h).l ov k).r = (if k = h then (nd h).r else if k = u then (nd h).l else if (nd k).r = u then h else (nd k).r) ∧
    (k ≠ 0 → (turn3 nd h u 1 (nd h).l ov k).up = (if k = h then ov else if k = u then h else if k = (nd h).l then u else (nd k).up)) := by
  obtain ⟨lu, hu, l1, l2, r1, r2, ul, ur, o1, o2, ol, or, inl, inr, both, lr⟩ := H
  refine ⟨?_, ?_, ?_⟩
  · unfold turn3
    simp only [hangN_l, turn1_l]
    by_cases k1 : k = h
    · subst k1; simp
    · by_cases k2 : k = u
      · subst k2; simp [k1, Ne.symm o2]
      · simp only [k1, k2, false_and, if_false]
        by_cases k3 : (nd k).l = u
        · obtain ⟨e1, e2⟩ := inl k lk k3
          rw [e1] at k3 ⊢
          simp [e2, k3]
        · rw [if_neg k3, if_neg]
          rintro ⟨e1, e2, e3⟩
          rw [e1] at k3; exact k3 e3
  · unfold turn3
    simp only [hangN_r, turn1_r]
    by_cases k1 : k = h
    · subst k1; simp [hu, Ne.symm o1]
    · by_cases k2 : k = u
      · subst k2
        simp [k1]
      · simp only [k1, k2, false_and, if_false]
        by_cases k3 : (nd k).r = u
        · obtain ⟨e1, e2⟩ := inr k lk k3
          rw [e1] at k3 ⊢
          have : (nd ov).l ≠ u := fun e => lr e2 e k3
          simp [e2, k3, this]
        · rw [if_neg k3, if_neg]
          rintro ⟨e1, e2, e3⟩
          rw [e1] at k3
          rcases (both e2).2 with e | e
          · exact e3 e
          · exact k3 e
  · intro k0
    unfold turn3
    simp only [hangN_up, turn1_up nd h0]
    by_cases k1 : k = h
    · subst k1
      simp [hu, Ne.symm l1]
    · by_cases k2 : k = u
      · subst k2; simp [k1, k0]
      · simp only [k1, k2, false_and, if_false]
        by_cases k3 : k = (nd h).l
        · rw [if_pos k3, if_pos ⟨k3, by rw [← k3]; exact k0⟩]
        · rw [if_neg k3, if_neg]
          rintro ⟨e, _⟩; exact k3 e

end Go.Proofs.Ythdmajddmajjoaa
