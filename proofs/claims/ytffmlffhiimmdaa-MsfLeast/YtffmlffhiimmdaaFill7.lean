/- A forest filled with edges that came in. -/
import Derived.Test.YtffmlffhiimmdaaAwake7
import Derived.Test.YtffmlffhiimmdaaRowK5
import Derived.Deep.Slices
namespace Go.Proofs.Ytffmlffhiimmdaa
open Go.ChangeShapes Go.WideShapes Go.ChangeAt Go.RowKit
set_option linter.unusedVariables false

/-- An edge as it came in. -/
structure EdT where
  id : Int
  u : Int
  v : Int
  wt : Int
def i64 (x : Int) : Prop := -9223372036854775808 ≤ x ∧ x ≤ 9223372036854775807
/-- Edges that came in, only read. -/
def ArgE (w : World) (o : Nat → Nat) (ao : Option Addr) (len : Nat) (f : Nat → EdT) : Prop :=
  ∀ j, j < len → ∃ b off, ao = some ⟨b, off, none⟩ ∧ b < w.heap.size ∧ o b = 0 ∧ (w.cell? ⟨b, off + j * 4, none⟩ = some (.int .i64 (f j).id) ∧ w.cell? ⟨b, off + j * 4 + 1, none⟩ = some (.int .i64 (f j).u) ∧ w.cell? ⟨b, off + j * 4 + 2, none⟩ = some (.int .i64 (f j).v) ∧ w.cell? ⟨b, off + j * 4 + 3, none⟩ = some (.int .i64 (f j).wt)) ∧ i64 (f j).id ∧ i64 (f j).u ∧ i64 (f j).v ∧ i64 (f j).wt
theorem ArgE.step {I : Nat → Prop} {w w' : World} {o o' : Nat → Nat} {ao : Option Addr} {len : Nat} {f : Nat → EdT} (h : ArgE w o ao len f) (s : Step I w o w' o') (hi : ¬ I 0) : ArgE w' o' ao len f := by
  intro j hj
  obtain ⟨b, off, h1, h2, h3, ⟨c0, c1, c2, c3⟩, hb⟩ := h j hj
  have hc := fun k => s.cell h2 (by rw [h3]; exact hi) k
  exact ⟨b, off, h1, Nat.lt_of_lt_of_le h2 s.size, (s.lab b h2).trans h3, ⟨(hc _).trans c0, (hc _).trans c1, (hc _).trans c2, (hc _).trans c3⟩, hb⟩

theorem cellsEd : Try.prog.cellsOf 43 = 4 := by kernel_rfl
theorem bytesEd : Try.prog.bytesOf 43 = 32 := by kernel_rfl

set_option maxRecDepth 100000 in
theorem open_eds {H : Type} {enc : TypeId × Value → H} {W : World} {v : Value} {d : DataW H} {ps : List MemPlace} {ao : Option Addr} {len cap : Nat} (hv : v = .slice ao len cap)
    (h : DataW.Trod enc Try.prog W 0 (fun _ => true) true 40 v d ps) (hlt : ∀ x ∈ ps, x.block < W.heap.size) :
    (∃ f, ArgE W o0 ao len f) ∧ ((d = .nil ∧ len = 0) ∨ ∃ es sp, d = .slice es sp ∧ es.length + sp.length = cap ∧ len ≤ cap) := by
  subst hv
  obtain ⟨fuel, hf⟩ := h
  rcases Go.Deep.open_slice Try.underlying40 hf with ⟨hcs, hx⟩ | ⟨a, len', cap', m, n, D, Pl, hcs, _, hl, hm, hmm, hx, hel⟩
  · simp [Value.cells] at hcs
    obtain ⟨rfl, rfl, rfl⟩ := hcs
    simp only [Prod.mk.injEq] at hx
    exact ⟨⟨fun _ => ⟨0, 0, 0, 0⟩, fun j hj => by omega⟩, .inl ⟨hx.1, rfl⟩⟩
  · simp [Value.cells] at hcs
    obtain ⟨rfl, rfl, rfl⟩ := hcs
    simp only [Prod.mk.injEq] at hx
    obtain ⟨rfl, rfl⟩ := hx
    simp only [if_true] at hmm
    subst hmm
    refine ⟨?_, .inr ⟨_, _, rfl, by simp; omega, hl⟩⟩
    obtain ⟨b, off, spot⟩ := a
    have each : ∀ i, i < len → ∃ q : EdT, (⟨b, off, spot⟩ : Addr).spot = none ∧ b < W.heap.size ∧ o0 b = 0 ∧ (W.cell? ⟨b, off + i * 4, none⟩ = some (.int .i64 q.id) ∧ W.cell? ⟨b, off + i * 4 + 1, none⟩ = some (.int .i64 q.u) ∧ W.cell? ⟨b, off + i * 4 + 2, none⟩ = some (.int .i64 q.v) ∧ W.cell? ⟨b, off + i * 4 + 3, none⟩ = some (.int .i64 q.wt)) ∧ i64 q.id ∧ i64 q.u ∧ i64 q.v ∧ i64 q.wt := by
      intro i hi
      obtain ⟨cs', h1, h2⟩ := hel i (by omega)
      rw [cellsEd] at h1
      obtain ⟨_, hlen, hcell⟩ := World.cells?_some h1
      obtain ⟨xs, k, hk, hxy, _, hxl, hff⟩ := DataW.trod_struct Try.underlying43 h2
      match xs, hxl, cs', hlen with
      | [y0, y1, y2, y3], _, [u0, u1, u2, u3], _ =>
        have g0 := hff 0 _ rfl
        have g1 := hff 1 _ rfl
        have g2 := hff 2 _ rfl
        have g3 := hff 3 _ rfl
        simp [cellsInt] at g0 g1 g2 g3
        obtain ⟨z0, e0, _, w0⟩ := DataW.trod_int Try.underlying3 g0
        obtain ⟨z1, e1, _, w1⟩ := DataW.trod_int Try.underlying3 g1
        obtain ⟨z2, e2, _, w2⟩ := DataW.trod_int Try.underlying3 g2
        obtain ⟨z3, e3, _, w3⟩ := DataW.trod_int Try.underlying3 g3
        simp at e0 e1 e2 e3
        subst e0 e1 e2 e3
        have c0 := hcell 0 (by omega)
        have c1 := hcell 1 (by omega)
        have c2 := hcell 2 (by omega)
        have c3 := hcell 3 (by omega)
        have hspot : spot = none := by
          obtain ⟨cs0, k1, k2⟩ := hel 0 (by omega)
          rw [cellsEd] at k1
          obtain ⟨_, klen, kcell⟩ := World.cells?_some k1
          have k3 := kcell 0 (by omega)
          rw [List.getElem?_eq_getElem (by omega)] at k3
          simpa [Addr.add] using World.cell?_spot k3
        subst hspot
        simp only [add_plain] at c0 c1 c2 c3
        have hbl : b < W.heap.size := hlt (.cell b off) (List.mem_append_left _ (MemPlace.mem_row.2 ⟨0, by rw [cellsEd]; omega, by simp⟩))
        exact ⟨⟨z0, z1, z2, z3⟩, rfl, hbl, rfl, ⟨by simpa using c0, by simpa using c1, by simpa using c2, by simpa using c3⟩, bd_i64 w0, bd_i64 w1, bd_i64 w2, bd_i64 w3⟩
    refine ⟨fun i => if h : i < len then (each i h).choose else ⟨0, 0, 0, 0⟩, fun j hj => ?_⟩
    have hq := (each j hj).choose_spec
    simp only [dif_pos hj]
    obtain ⟨hs, hbl, h3⟩ := hq
    have hs' : spot = none := hs
    subst hs'
    exact ⟨b, off, rfl, hbl, h3⟩

end Go.Proofs.Ytffmlffhiimmdaa
namespace Go.Proofs.Ytffmlffhiimmdaa
open Go.ChangeShapes Go.WideShapes Go.ChangeAt Go.RowKit
set_option linter.unusedVariables false

/-- The edge that a raw one speaks of. -/
def fEd (f : Nat → EdT) (n : Nat) (ti mo : Int) (i : Nat) : Ed := ⟨pkN (f i).u n, pkN (f i).v n, ((pkN (f i).wt 41 : Int) - 20) * ti + mo⟩
/-- The edges of the first k of them. -/
def fD (f : Nat → EdT) (n : Nat) (ti mo : Int) (k : Nat) : Nat → Option Ed := fun i => if i < k ∧ pkN (f i).u n ≠ pkN (f i).v n then some (fEd f n ti mo i) else none
theorem fD_new (f : Nat → EdT) (n : Nat) (ti mo : Int) : fD f n ti mo 0 = fun _ => none := by funext i; unfold fD; rw [if_neg (by omega)]
theorem fD_at (f : Nat → EdT) (n : Nat) (ti mo : Int) (k : Nat) : fD f n ti mo k k = none := by unfold fD; rw [if_neg (by omega)]
theorem fD_loop (f : Nat → EdT) (n : Nat) (ti mo : Int) (k : Nat) (h : pkN (f k).u n = pkN (f k).v n) : fD f n ti mo (k + 1) = fD f n ti mo k := by
  funext i
  unfold fD
  by_cases e : i = k
  · subst e; rw [if_neg (fun q => q.2 h), if_neg (fun q => q.2 h)]
  · by_cases q : i < k ∧ pkN (f i).u n ≠ pkN (f i).v n
    · rw [if_pos q, if_pos ⟨by omega, q.2⟩]
    · rw [if_neg q, if_neg (fun r => q ⟨by omega, r.2⟩)]
theorem fD_next (f : Nat → EdT) (n : Nat) (ti mo : Int) (k : Nat) (h : pkN (f k).u n ≠ pkN (f k).v n) : fD f n ti mo (k + 1) = upd (fD f n ti mo k) k (some (fEd f n ti mo k)) := by
  funext i
  by_cases e : i = k
  · subst e; rw [upd_same]; unfold fD; rw [if_pos ⟨by omega, h⟩]
  · rw [upd_other _ _ e]
    unfold fD
    by_cases q : i < k ∧ pkN (f i).u n ≠ pkN (f i).v n
    · rw [if_pos q, if_pos ⟨by omega, q.2⟩]
    · rw [if_neg q, if_neg (fun r => q ⟨by omega, r.2⟩)]
theorem mul_bd {a t : Int} (ha : -20 ≤ a ∧ a ≤ 20) (ht : 1 ≤ t ∧ t ≤ 1000) : -20000 ≤ a * t ∧ a * t ≤ 20000 := by
  have h1 : a * t ≤ 20 * t := Int.mul_le_mul_of_nonneg_right ha.2 (by omega)
  have h2 : -20 * t ≤ a * t := Int.mul_le_mul_of_nonneg_right ha.1 (by omega)
  omega
/-- Between two rounds of filled. -/
def FlS (w : World) (o : Nat → Nat) (L p n : Nat) (f : Nat → EdT) (ti mo : Int) (k : Nat) (wr : World) : Prop :=
  ∃ o' ed m c, Mx wr o' L p n (fD f n ti mo k) ed m c ∧ m ≤ k ∧ c ≤ k ∧ Step (ML L) w o wr o'

set_option maxRecDepth 100000 in
set_option maxHeartbeats 4000000 in
theorem filled_in (w : World) (o : Nat → Nat) (L n : Nat) (a1 : Option Addr) (len1 cap1 : Nat) (f : Nat → EdT) (ti mo : Int) (ha : ArgE w o a1 len1 f) (hL : 1 ≤ L) (hn : 1 ≤ n ∧ n ≤ 64) (hl : len1 ≤ 9223372036854775807) (hti : 1 ≤ ti ∧ ti ≤ 1000) (hmo : -1000000 ≤ mo ∧ mo ≤ 1000000) :
    Calls Try.prog 26 #[.int .i64 (n : Nat), .slice a1 len1 cap1, .int .i64 ti, .int .i64 mo] w fun e w' => ∃ p, e = .returned (.pointer (some ⟨p, 0, none⟩)) ∧ FlS w o L p n f ti mo (min len1 150) w' := by
  have npos : ¬ ML L 0 := fun h => by have := h.1; omega
  go_enter Try.func26, Try.ntmps26
  go_wp2_with fail
  refine (new7 w o L n hn.1 hn.2).mono ?_
  rintro e w1 ⟨p, o1, rfl, X1, s1⟩
  have START : FlS w o L p n f ti mo 0 w1 := ⟨o1, _, 0, 0, by rw [fD_new]; exact X1, by omega, by omega, s1⟩
  clear X1 s1
  go_wp2
  go_loopg [11] 151 (fun g iv wr => ∃ k : Nat, iv = .int .i64 (k : Nat) ∧ k ≤ len1 ∧ k ≤ 150 ∧ g = 151 - k ∧ FlS w o L p n f ti mo k wr)
  case atStart => exact ⟨0, by go_num, by omega, by omega, by omega, START⟩
  case round =>
    clear START
    obtain ⟨k, rfl, hk1, hk2, rfl, o2, ed, m, c, X2, hm, hc, s2⟩ := hrel
    by_cases hlt : k < len1 ∧ k < 150
    · obtain ⟨b, off, rfl, hbl, hob, ⟨k0, k1, k2, k3⟩, ⟨i01, i02⟩, ⟨iu1, iu2⟩, ⟨iv1, iv2⟩, ⟨iw1, iw2⟩⟩ := ha.step s2 npos k hlt.1
      have hkI : (k : Int) < (len1 : Int) := by omega
      have hk150 : (k : Int) < 150 := by omega
      obtain ⟨F, hF⟩ : ∃ F : Int → Int → Nat, ∀ c (m : Nat), F c (m : Int) = pkN c m := ⟨fun c m => pkN c m.toNat, fun c m => by simp⟩
      have HP : Hid (∀ (c m : Int) (wx : World), (c = (f k).u ∧ m = (n : Int) ∨ c = (f k).v ∧ m = (n : Int) ∨ c = (f k).wt ∧ m = 41) → Calls Try.prog 14 #[.int .i64 c, .int .i64 m] wx fun e w' => e = .returned (.int .i64 (F c m)) ∧ w' = wx) := fun c m wx h => by
        rcases h with ⟨rfl, rfl⟩ | ⟨rfl, rfl⟩ | ⟨rfl, rfl⟩
        · rw [hF]; exact pick_is _ n wx iu1 iu2 (by omega) (by omega)
        · rw [hF]; exact pick_is _ n wx iv1 iv2 (by omega) (by omega)
        · rw [show (41 : Int) = ((41 : Nat) : Int) from rfl, hF]; exact pick_is _ 41 wx iw1 iw2 (by omega) (by omega)
      have f41 : F (f k).wt 41 = pkN (f k).wt 41 := hF _ 41
      have hw41 : pkN (f k).wt 41 < 41 := pkN_lt _ _ (by omega)
      have hpu : pkN (f k).u n < n := pkN_lt _ _ (by omega)
      have hpv : pkN (f k).v n < n := pkN_lt _ _ (by omega)
      have hmb := mul_bd (a := (pkN (f k).wt 41 : Int) - 20) (by omega) hti
      have sd : Step (fun _ => False) wr o2 wr.drew o2 := (Step.refl _ _ _).drew
      have X2d := X2.step sd (fun _ _ => id)
      have ky : wr.cell? ⟨b, off + k * 4 + 1, none⟩ = some (.int .i64 (f k).u) ∧ wr.cell? ⟨b, off + k * 4 + 2, none⟩ = some (.int .i64 (f k).v) ∧ wr.cell? ⟨b, off + k * 4 + 3, none⟩ = some (.int .i64 (f k).wt) := ⟨k1, k2, k3⟩
      have HI : Hid (∀ wt : Int, wt = ((pkN (f k).wt 41 : Int) - 20) * ti + mo → Calls Try.prog 16 #[.pointer (some ⟨p, 0, none⟩), .int .i64 (k : Nat), .int .i64 (F (f k).u n), .int .i64 (F (f k).v n), .int .i64 wt] wr.drew fun e w' => ∃ r : Int, e = .returned (.int .i64 r) ∧ (FlS w o L p n f ti mo (k + 1) w') ∧ (w'.cell? ⟨b, off + k * 4 + 1, none⟩ = some (.int .i64 (f k).u) ∧ w'.cell? ⟨b, off + k * 4 + 2, none⟩ = some (.int .i64 (f k).v) ∧ w'.cell? ⟨b, off + k * 4 + 3, none⟩ = some (.int .i64 (f k).wt))) := by
        intro wt hwt
        subst hwt
        rw [hF, hF]
        have hcell : ∀ {I : Nat → Prop} {w' o'}, Step I wr.drew o2 w' o' → ¬ I 0 → (w'.cell? ⟨b, off + k * 4 + 1, none⟩ = some (.int .i64 (f k).u) ∧ w'.cell? ⟨b, off + k * 4 + 2, none⟩ = some (.int .i64 (f k).v) ∧ w'.cell? ⟨b, off + k * 4 + 3, none⟩ = some (.int .i64 (f k).wt)) := fun {I w' o'} s hI => by
          have hc := fun j => s.cell (show b < wr.drew.heap.size from hbl) (by rw [hob]; exact hI) j
          exact ⟨(hc _).trans k1, (hc _).trans k2, (hc _).trans k3⟩
        by_cases huv : pkN (f k).u n = pkN (f k).v n
        · have hi := insert_loop wr.drew o2 L p n _ ed m c k (pkN (f k).u n) (((pkN (f k).wt 41 : Int) - 20) * ti + mo) X2d hpu (by omega) (by omega) (fD_at f n ti mo k)
          rw [← huv]
          refine hi.mono ?_
          rintro e w' ⟨rfl, X3, s3⟩
          exact ⟨72, rfl, ⟨o2, ed, m, c, by rw [fD_loop f n ti mo k huv]; exact X3, by omega, by omega, (s2.trans (sd.mono fun _ h => h.elim)).trans (s3.mono fun _ h => h.elim)⟩, hcell s3 id⟩
        · have hi := insert_ok wr.drew o2 L p n _ ed m c k (pkN (f k).u n) (pkN (f k).v n) (((pkN (f k).wt 41 : Int) - 20) * ti + mo) X2d hpu hpv huv (by omega) (by omega) (fD_at f n ti mo k) (by omega) (by omega)
          refine hi.mono ?_
          rintro e w' ⟨rfl, o3, ed3, X3, s3⟩
          exact ⟨0, rfl, ⟨o3, ed3, m + 1, c + 1, by rw [fD_next f n ti mo k huv]; exact X3, by omega, by omega, (s2.trans (sd.mono fun _ h => h.elim)).trans s3⟩, hcell s3 npos⟩
      clear X2 X2d s2 sd ha k0 k1 k2 k3
      have hw1 : IntKind.i64.wrap ((F (f k).wt 41 : Int) - 20) = (pkN (f k).wt 41 : Int) - 20 := by rw [f41, IntKind.wrap_i64]; omega
      have hw2 : IntKind.i64.wrap (((pkN (f k).wt 41 : Int) - 20) * ti) = ((pkN (f k).wt 41 : Int) - 20) * ti := by
        generalize ((pkN (f k).wt 41 : Int) - 20) * ti = z at hmb ⊢
        rw [IntKind.wrap_i64]; omega
      have hw3 : IntKind.i64.wrap (((pkN (f k).wt 41 : Int) - 20) * ti + mo) = ((pkN (f k).wt 41 : Int) - 20) * ti + mo := by
        generalize ((pkN (f k).wt 41 : Int) - 20) * ti = z at hmb ⊢
        rw [IntKind.wrap_i64]; omega
      have HW : Hid (IntKind.i64.wrap (IntKind.i64.wrap (IntKind.i64.wrap ((F (f k).wt 41 : Int) - 20) * ti) + mo) = ((pkN (f k).wt 41 : Int) - 20) * ti + mo) := by
        show _ = _
        rw [hw1, hw2, hw3]
      clear hw1 hw2 hw3 hmb f41 hF
      go_wp2_with fail
      go_region_held3 (fun wx => wx.cell? ⟨b, off + k * 4 + 1, none⟩ = some (.int .i64 (f k).u) ∧ wx.cell? ⟨b, off + k * 4 + 2, none⟩ = some (.int .i64 (f k).v) ∧ wx.cell? ⟨b, off + k * 4 + 3, none⟩ = some (.int .i64 (f k).wt)) (first | (with_reducible exact ky) | (with_reducible exact kz) | go_keep) ((first | (go_at_call 14; refine (HP.out _ _ _ (by simp)).mono ?_; rintro e w7 ⟨rfl, hw7⟩; subst hw7) | (go_at_call 16; refine (HI.out _ HW.out).mono ?_; rintro e w7 ⟨r, rfl, RR, kz⟩)))
      clear HP HI HW ky kz
      go_wp2
      go_roundg (151 - (k + 1))
      case measure => omega
      case rel => exact ⟨k + 1, by go_num, by omega, by omega, rfl, RR⟩
    · have RR : FlS w o L p n f ti mo k wr := ⟨o2, ed, m, c, X2, hm, hc, s2⟩
      have hmin : min len1 150 = k := by omega
      rw [← hmin] at RR
      clear X2 s2 ha
      by_cases hq : k < len1
      · have d1 : (k : Int) < (len1 : Int) := by omega
        have d2 : decide ((k : Int) < 150) = false := decide_eq_false (by omega)
        go_wp2
        go_ret
        exact ⟨p, rfl, RR⟩
      · have d1 : decide ((k : Int) < (len1 : Int)) = false := decide_eq_false (by omega)
        go_wp2
        go_ret
        exact ⟨p, rfl, RR⟩

end Go.Proofs.Ytffmlffhiimmdaa
