/- The law SyntaxJoins, walked. -/
import Derived.Test.YtlmeonpdjcophaaDoorBracketsWalk
import Derived.Test.YtlmeonpdjcophaaDoorJoiM
import Derived.Test.YtlmeonpdjcophaaDoorSameA
namespace Go.Proofs.YtlmeonpdjcophaaDoor
open Go.ChangeShapes Go.WideShapes Go.ChangeAt Go.RowKit
set_option linter.unusedVariables false
set_option linter.unusedSimpArgs false

theorem sameF_mv (d : Nat) : ∀ (f g : Fs), sameF (f.mv d) g = sameF f g
  | ⟨none⟩, ⟨none⟩ => rfl
  | ⟨none⟩, ⟨some ⟨k', n', nm', a', ks', r'⟩⟩ => rfl
  | ⟨some ⟨k, n, nm, a, ks, r⟩⟩, ⟨none⟩ => rfl
  | ⟨some ⟨k, n, nm, a, ks, r⟩⟩, ⟨some ⟨k', n', nm', a', ks', r'⟩⟩ => by simp only [Fs.mv, sameF, sameF_mv d ks ks', sameF_mv d r r']
theorem same_two (x y : Ex) (kd aa : Int) (q : Nat) : sameE ⟨kd, 0, [], aa, (one ((x.mv 1).mv 0)).snoc ((y.mv 1).mv q)⟩ ⟨kd, 0, [], 0, (one x).snoc y⟩ = true := by
  have h1 : ∀ (d d2 : Nat) (e : Ex), ((e.mv d).mv d2).kids = (e.kids.mv d).mv d2 := fun d d2 e => rfl
  have h2 : (sameF ((one ((x.mv 1).mv 0)).snoc ((y.mv 1).mv q)) ((one x).snoc y)) = true := by
    show (x.k == x.k && x.n == x.n && x.nm == x.nm && sameF ((x.kids.mv 1).mv 0) x.kids && (y.k == y.k && y.n == y.n && y.nm == y.nm && sameF ((y.kids.mv 1).mv q) y.kids && true)) = true
    rw [sameF_mv, sameF_mv, sameF_mv, sameF_mv, sameF_self, sameF_self]
    simp
  simp [sameE, h2]
abbrev sgZ : List UInt8 × Nat × Nat := ([], 0, 0)
/-- A slice of eleven cells in a new block. -/
theorem new_at (w : World) (xs : List Value) (t : TypeId) (j : Nat) (u : Value) (h : xs[j]? = some u) : (w.alloc (.cells xs.toArray t)).cell? ⟨w.heap.size, j, none⟩ = some u := by
  have := new_cells_at w xs t j u h
  rw [show (⟨w.heap.size, 0, none⟩ : Addr).add j = ⟨w.heap.size, j, none⟩ by simp [Addr.add]; intro h; exact h.symm] at this
  exact this
theorem join_list (a b s : ByteArray) : ((⟨#[40]⟩ : ByteArray) ++ a ++ ⟨#[41]⟩ ++ s ++ ⟨#[40]⟩ ++ b ++ ⟨#[41]⟩).data.toList = 40 :: (a.data.toList ++ 41 :: (s.data.toList ++ 40 :: (b.data.toList ++ [41]))) := by
  simp
theorem join_size (a b s : ByteArray) : ((⟨#[40]⟩ : ByteArray) ++ a ++ ⟨#[41]⟩ ++ s ++ ⟨#[40]⟩ ++ b ++ ⟨#[41]⟩).size = a.size + b.size + s.size + 4 := by
  simp only [ByteArray.size_append]
  show 1 + a.size + 1 + s.size + 1 + b.size + 1 = _
  omega
theorem two_new (w : World) (o1 o2 : Obj) : ((w.alloc o1).alloc o2).drew.heap[w.heap.size]? = some o1 ∧ ((w.alloc o1).alloc o2).drew.heap[w.heap.size + 1]? = some o2 ∧ Below w.heap.size w ((w.alloc o1).alloc o2).drew := by
  refine ⟨(Below.heap_alloc (w.alloc o1) o2 _ (by simp)).trans (heap_alloc_new w _), ?_, (((Below.refl _ w).alloc (Nat.le_refl _) _).alloc (by simp) _).drew⟩
  have := heap_alloc_new (w.alloc o1) o2
  show ((w.alloc o1).alloc o2).heap[w.heap.size + 1]? = some o2
  simpa using this
theorem cells_ten {w : World} {b : Nat} {xs : List Value} {t : TypeId} (h : w.heap[b]? = some (.cells xs.toArray t (0, 0))) : ∀ j u, xs[j]? = some u → w.cell? ⟨b, 0 + j, none⟩ = some u := fun j u hu => by
  rw [Nat.zero_add, cell_of_row w b j _ t (0, 0) h]
  simpa using hu
def sgC : List Value := sgnsL.map fun z => stv z.1
def kdC : List Value := sgnsL.map fun z => .int .i64 (z.2.1 : Nat)
theorem sg_at (k : Nat) (z : List UInt8 × Nat × Nat) (h : sgnsL[k]? = some z) : sgC[k]? = some (stv z.1) ∧ kdC[k]? = some (.int .i64 (z.2.1 : Nat)) := by
  simp [sgC, kdC, h]
set_option maxRecDepth 100000 in
set_option maxHeartbeats 4000000 in
theorem joins_walk (a b : ByteArray) (which : Int) (w : World) (hw1 : -9223372036854775808 ≤ which) (hw2 : which ≤ 9223372036854775807) (ha : a.size ≤ 140737488351232) (hb : b.size ≤ 140737488351232) (FX : FixA w) :
    Calls Tryd.prog 6 #[.string a, .string b, .int .i64 which] w fun e w' => e = .returned (.bool true) ∧ Below w.heap.size w w' := by
  have c := awake_r w FX
  go_enter Tryd.func6, Tryd.ntmps6
  go_wp2_with fail
  refine c.mono ?_
  rintro e w1 ⟨rfl, B1⟩
  clear c
  have FX1 := FX.below B1
  have c := parse_a a w1 FX1 (by unfold maxLen; omega)
  go_wp2_with fail
  refine c.mono ?_
  rintro e w2 hP
  clear c
  obtain ⟨x, ax, cx, ex, px, rfl, SN, bw, R⟩ := hP.any
  clear hP
  have Hx : Hid (RsIs (parseA a.data.toList) x ex px) := R
  have B2 := B1.trans (bw.mono B1.size)
  have FX2 := FX1.below bw
  have Sx := Sl.all SN
  clear SN bw R
  have bw : Below w2.heap.size w2 (w2.alloc (.cells #[.int .i64 x.k, .int .i64 x.n, stv x.nm, .slice ax x.kids.len cx, .int .i64 x.a] 24)) := (Below.refl _ w2).alloc (Nat.le_refl _) _
  have Xx : (w2.alloc (.cells #[.int .i64 x.k, .int .i64 x.n, stv x.nm, .slice ax x.kids.len cx, .int .i64 x.a] 24)).heap[w2.heap.size]? = some (.cells #[.int .i64 x.k, .int .i64 x.n, stv x.nm, .slice ax x.kids.len cx, .int .i64 x.a] 24) := heap_alloc_new w2 _
  have B3 := B2.trans (bw.mono B2.size)
  have FX3 := FX2.below bw
  have Sx := SlT.below Sx bw
  rw [exV_out]
  go_upto_region 3 with fail
  generalize w2.alloc (.cells #[.int .i64 x.k, .int .i64 x.n, stv x.nm, .slice ax x.kids.len cx, .int .i64 x.a] 24) = w3 at *
  generalize w2.heap.size = bqx at *
  clear bw B1 B2 FX1 FX2
  have c := parse_a b w3 FX3 (by unfold maxLen; omega)
  go_wp2_with fail
  refine c.mono ?_
  rintro e w4 hP
  clear c
  obtain ⟨y, ay, cy, ey, py, rfl, SN, bw, R⟩ := hP.any
  clear hP
  have Hy : Hid (RsIs (parseA b.data.toList) y ey py) := R
  have B4 := B3.trans (bw.mono B3.size)
  have FX4 := FX3.below bw
  have Sy := Sl.all SN
  have Sx := SlT.below Sx bw
  have Xx := (bw.block _ (lt_of_block Xx)).trans Xx
  clear SN bw R
  have bw : Below w4.heap.size w4 (w4.alloc (.cells #[.int .i64 y.k, .int .i64 y.n, stv y.nm, .slice ay y.kids.len cy, .int .i64 y.a] 24)) := (Below.refl _ w4).alloc (Nat.le_refl _) _
  have Xy : (w4.alloc (.cells #[.int .i64 y.k, .int .i64 y.n, stv y.nm, .slice ay y.kids.len cy, .int .i64 y.a] 24)).heap[w4.heap.size]? = some (.cells #[.int .i64 y.k, .int .i64 y.n, stv y.nm, .slice ay y.kids.len cy, .int .i64 y.a] 24) := heap_alloc_new w4 _
  have B5 := B4.trans (bw.mono B4.size)
  have FX5 := FX4.below bw
  have Sy := SlT.below Sy bw
  have Sx := SlT.below Sx bw
  have Xx := (bw.block _ (lt_of_block Xx)).trans Xx
  rw [exV_out]
  go_upto_region 4 with fail
  generalize w4.alloc (.cells #[.int .i64 y.k, .int .i64 y.n, stv y.nm, .slice ay y.kids.len cy, .int .i64 y.a] 24) = w5 at *
  generalize w4.heap.size = bqy at *
  clear bw B3 B4 FX3 FX4
  have c := parse_a (⟨#[40]⟩ ++ a ++ ⟨#[41]⟩) w5 FX5 (by rw [par_size]; unfold maxLen; omega)
  go_wp2_with fail
  refine c.mono ?_
  rintro e w6 hP
  clear c
  obtain ⟨u, au, cu, eu, pu, rfl, SN, bw, R⟩ := hP.any
  clear hP
  rw [par_list] at R
  have Hu : Hid (RsIs (parseA (40 :: (a.data.toList ++ [41]))) u eu pu) := R
  have B6 := B5.trans (bw.mono B5.size)
  have FX6 := FX5.below bw
  have Su := Sl.all SN
  have Sx := SlT.below Sx bw
  have Xx := (bw.block _ (lt_of_block Xx)).trans Xx
  have Sy := SlT.below Sy bw
  have Xy := (bw.block _ (lt_of_block Xy)).trans Xy
  clear SN bw R
  have bw : Below w6.heap.size w6 (w6.alloc (.cells #[.int .i64 u.k, .int .i64 u.n, stv u.nm, .slice au u.kids.len cu, .int .i64 u.a] 24)) := (Below.refl _ w6).alloc (Nat.le_refl _) _
  have Xu : (w6.alloc (.cells #[.int .i64 u.k, .int .i64 u.n, stv u.nm, .slice au u.kids.len cu, .int .i64 u.a] 24)).heap[w6.heap.size]? = some (.cells #[.int .i64 u.k, .int .i64 u.n, stv u.nm, .slice au u.kids.len cu, .int .i64 u.a] 24) := heap_alloc_new w6 _
  have B7 := B6.trans (bw.mono B6.size)
  have FX7 := FX6.below bw
  have Su := SlT.below Su bw
  have Sx := SlT.below Sx bw
  have Xx := (bw.block _ (lt_of_block Xx)).trans Xx
  have Sy := SlT.below Sy bw
  have Xy := (bw.block _ (lt_of_block Xy)).trans Xy
  rw [exV_out]
  go_upto_region 5 with fail
  generalize w6.alloc (.cells #[.int .i64 u.k, .int .i64 u.n, stv u.nm, .slice au u.kids.len cu, .int .i64 u.a] 24) = w7 at *
  generalize w6.heap.size = bqu at *
  clear bw B5 B6 FX5 FX6
  clear Xu Su
  have c := parse_a (⟨#[40]⟩ ++ b ++ ⟨#[41]⟩) w7 FX7 (by rw [par_size]; unfold maxLen; omega)
  go_wp2_with fail
  refine c.mono ?_
  rintro e w8 hP
  clear c
  obtain ⟨v, av, cv, ev, pv, rfl, SN, bw, R⟩ := hP.any
  clear hP
  rw [par_list] at R
  have Hv : Hid (RsIs (parseA (40 :: (b.data.toList ++ [41]))) v ev pv) := R
  have B8 := B7.trans (bw.mono B7.size)
  have FX8 := FX7.below bw
  have Sv := Sl.all SN
  have Sx := SlT.below Sx bw
  have Xx := (bw.block _ (lt_of_block Xx)).trans Xx
  have Sy := SlT.below Sy bw
  have Xy := (bw.block _ (lt_of_block Xy)).trans Xy
  clear SN bw R
  have bw : Below w8.heap.size w8 (w8.alloc (.cells #[.int .i64 v.k, .int .i64 v.n, stv v.nm, .slice av v.kids.len cv, .int .i64 v.a] 24)) := (Below.refl _ w8).alloc (Nat.le_refl _) _
  have Xv : (w8.alloc (.cells #[.int .i64 v.k, .int .i64 v.n, stv v.nm, .slice av v.kids.len cv, .int .i64 v.a] 24)).heap[w8.heap.size]? = some (.cells #[.int .i64 v.k, .int .i64 v.n, stv v.nm, .slice av v.kids.len cv, .int .i64 v.a] 24) := heap_alloc_new w8 _
  have B9 := B8.trans (bw.mono B8.size)
  have FX9 := FX8.below bw
  have Sv := SlT.below Sv bw
  have Sx := SlT.below Sx bw
  have Xx := (bw.block _ (lt_of_block Xx)).trans Xx
  have Sy := SlT.below Sy bw
  have Xy := (bw.block _ (lt_of_block Xy)).trans Xy
  rw [exV_out]
  go_upto_region 6 with fail
  generalize w8.alloc (.cells #[.int .i64 v.k, .int .i64 v.n, stv v.nm, .slice av v.kids.len cv, .int .i64 v.a] 24) = w9 at *
  generalize w8.heap.size = bqv at *
  clear bw B7 B8 FX7 FX8
  clear Xv Sv
  have HLa : Hid (a.data.toList.length = a.size) := data_len a
  have HLb : Hid (b.data.toList.length = b.size) := data_len b
  cases h : parseA a.data.toList using Rs.on with
  | out => have h2 := Hx.out; rw [h] at h2; exact h2.elim
  | bad e1 p1 =>
    have h2 := Hx.out
    rw [h] at h2
    obtain ⟨-, rfl, -⟩ := h2
    have hne := parse_bad h
    have hI : ((ex : Int) != 0) = true := by simp; omega
    have hI2 : ¬ (ex : Int) = 0 := by omega
    clear h hne Hx Xx Xy Sx Sy
    go_wp2
    go_ret
    exact ⟨rfl, B9⟩
  | ok t1 t2 =>
  have h2 := Hx.out
  rw [h] at h2
  obtain ⟨rfl, rfl, rfl⟩ := h2
  have Px : Hid (parseA a.data.toList = .ok x t2) := h
  clear h Hx
  cases h : parseA b.data.toList using Rs.on with
  | out => have h2 := Hy.out; rw [h] at h2; exact h2.elim
  | bad e1 p1 =>
    have h2 := Hy.out
    rw [h] at h2
    obtain ⟨-, rfl, -⟩ := h2
    have hne := parse_bad h
    have hI : ((ey : Int) != 0) = true := by simp; omega
    have hI2 : ¬ (ey : Int) = 0 := by omega
    clear h hne Hy Xx Xy Sx Sy
    go_wp2
    go_ret
    exact ⟨rfl, B9⟩
  | ok t1 t2 =>
  have h2 := Hy.out
  rw [h] at h2
  obtain ⟨rfl, rfl, rfl⟩ := h2
  have Py : Hid (parseA b.data.toList = .ok y t2) := h
  clear h Hy
  cases h : parseA (40 :: (a.data.toList ++ [41])) using Rs.on with
  | out => have h2 := Hu.out; rw [h] at h2; exact h2.elim
  | bad e1 p1 =>
    have h2 := Hu.out
    rw [h] at h2
    obtain ⟨-, rfl, -⟩ := h2
    have hne := parse_bad h
    have hI : ((eu : Int) != 0) = true := by simp; omega
    have hI2 : ¬ (eu : Int) = 0 := by omega
    clear h hne Hu Xx Xy Sx Sy
    go_wp2
    go_ret
    exact ⟨rfl, B9⟩
  | ok t1 t2 =>
  have h2 := Hu.out
  rw [h] at h2
  obtain ⟨rfl, rfl, rfl⟩ := h2
  have Pu : Hid (parseA (40 :: (a.data.toList ++ [41])) = .ok u t2) := h
  clear h Hu
  cases h : parseA (40 :: (b.data.toList ++ [41])) using Rs.on with
  | out => have h2 := Hv.out; rw [h] at h2; exact h2.elim
  | bad e1 p1 =>
    have h2 := Hv.out
    rw [h] at h2
    obtain ⟨-, rfl, -⟩ := h2
    have hne := parse_bad h
    have hI : ((ev : Int) != 0) = true := by simp; omega
    have hI2 : ¬ (ev : Int) = 0 := by omega
    clear h hne Hv Xx Xy Sx Sy
    go_wp2
    go_ret
    exact ⟨rfl, B9⟩
  | ok t1 t2 =>
  have h2 := Hv.out
  rw [h] at h2
  obtain ⟨rfl, rfl, rfl⟩ := h2
  have Pv : Hid (parseA (40 :: (b.data.toList ++ [41])) = .ok v t2) := h
  clear h Hv
  have okx := parse_okT Px.out
  have oky := parse_okT Py.out
  have Q10 : ∀ j u, sgC[j]? = some u → (w9.alloc (.cells #[.string ⟨#[97, 110, 100]⟩, .string ⟨#[111, 114]⟩, .string ⟨#[61]⟩, .string ⟨#[33, 61]⟩, .string ⟨#[60]⟩, .string ⟨#[60, 61]⟩, .string ⟨#[43]⟩, .string ⟨#[45]⟩, .string ⟨#[42]⟩, .string ⟨#[47]⟩, .string ⟨#[37]⟩] 9)).cell? ⟨w9.heap.size, j, none⟩ = some u := new_at w9 sgC _
  have bw : Below w9.heap.size w9 (w9.alloc (.cells #[.string ⟨#[97, 110, 100]⟩, .string ⟨#[111, 114]⟩, .string ⟨#[61]⟩, .string ⟨#[33, 61]⟩, .string ⟨#[60]⟩, .string ⟨#[60, 61]⟩, .string ⟨#[43]⟩, .string ⟨#[45]⟩, .string ⟨#[42]⟩, .string ⟨#[47]⟩, .string ⟨#[37]⟩] 9)) := (Below.refl _ w9).alloc (Nat.le_refl _) _
  have B10 := B9.trans (bw.mono B9.size)
  have FX10 := FX9.below bw
  have Sx := SlT.below Sx bw
  have Xx := (bw.block _ (lt_of_block Xx)).trans Xx
  have Sy := SlT.below Sy bw
  have Xy := (bw.block _ (lt_of_block Xy)).trans Xy
  have lb : w9.heap.size < (w9.alloc (.cells #[.string ⟨#[97, 110, 100]⟩, .string ⟨#[111, 114]⟩, .string ⟨#[61]⟩, .string ⟨#[33, 61]⟩, .string ⟨#[60]⟩, .string ⟨#[60, 61]⟩, .string ⟨#[43]⟩, .string ⟨#[45]⟩, .string ⟨#[42]⟩, .string ⟨#[47]⟩, .string ⟨#[37]⟩] 9)).heap.size := by simp
  have HQ : Hid (∀ j u, sgC[j]? = some u → (w9.alloc (.cells #[.string ⟨#[97, 110, 100]⟩, .string ⟨#[111, 114]⟩, .string ⟨#[61]⟩, .string ⟨#[33, 61]⟩, .string ⟨#[60]⟩, .string ⟨#[60, 61]⟩, .string ⟨#[43]⟩, .string ⟨#[45]⟩, .string ⟨#[42]⟩, .string ⟨#[47]⟩, .string ⟨#[37]⟩] 9)).cell? ⟨w9.heap.size, j, none⟩ = some u) := Q10
  clear Q10
  go_upto_region 9 with fail
  generalize w9.alloc (.cells #[.string ⟨#[97, 110, 100]⟩, .string ⟨#[111, 114]⟩, .string ⟨#[61]⟩, .string ⟨#[33, 61]⟩, .string ⟨#[60]⟩, .string ⟨#[60, 61]⟩, .string ⟨#[43]⟩, .string ⟨#[45]⟩, .string ⟨#[42]⟩, .string ⟨#[47]⟩, .string ⟨#[37]⟩] 9) = w10 at *
  generalize w9.heap.size = bs at *
  clear bw B9 FX9
  have K11 : Hid (∀ j u, kdC[j]? = some u → (w10.alloc (.cells #[.int .i64 17, .int .i64 18, .int .i64 13, .int .i64 14, .int .i64 15, .int .i64 16, .int .i64 8, .int .i64 9, .int .i64 10, .int .i64 11, .int .i64 12] 3)).cell? ⟨w10.heap.size, j, none⟩ = some u) := new_at w10 kdC _
  have bw : Below w10.heap.size w10 (w10.alloc (.cells #[.int .i64 17, .int .i64 18, .int .i64 13, .int .i64 14, .int .i64 15, .int .i64 16, .int .i64 8, .int .i64 9, .int .i64 10, .int .i64 11, .int .i64 12] 3)) := (Below.refl _ w10).alloc (Nat.le_refl _) _
  have B11 := B10.trans (bw.mono B10.size)
  have FX11 := FX10.below bw
  have Sx := SlT.below Sx bw
  have Xx := (bw.block _ (lt_of_block Xx)).trans Xx
  have Sy := SlT.below Sy bw
  have Xy := (bw.block _ (lt_of_block Xy)).trans Xy
  have HQ2 : Hid (∀ j u, sgC[j]? = some u → (w10.alloc (.cells #[.int .i64 17, .int .i64 18, .int .i64 13, .int .i64 14, .int .i64 15, .int .i64 16, .int .i64 8, .int .i64 9, .int .i64 10, .int .i64 11, .int .i64 12] 3)).cell? ⟨bs, j, none⟩ = some u) := fun j u hu => (bw.cell (p := ⟨bs, j, none⟩) lb).trans (HQ.out j u hu)
  have lb2 : bs < (w10.alloc (.cells #[.int .i64 17, .int .i64 18, .int .i64 13, .int .i64 14, .int .i64 15, .int .i64 16, .int .i64 8, .int .i64 9, .int .i64 10, .int .i64 11, .int .i64 12] 3)).heap.size := Nat.lt_of_lt_of_le lb bw.size
  have lk : w10.heap.size < (w10.alloc (.cells #[.int .i64 17, .int .i64 18, .int .i64 13, .int .i64 14, .int .i64 15, .int .i64 16, .int .i64 8, .int .i64 9, .int .i64 10, .int .i64 11, .int .i64 12] 3)).heap.size := by simp
  go_upto_region 10 with fail
  generalize w10.alloc (.cells #[.int .i64 17, .int .i64 18, .int .i64 13, .int .i64 14, .int .i64 15, .int .i64 16, .int .i64 8, .int .i64 9, .int .i64 10, .int .i64 11, .int .i64 12] 3) = w11 at *
  generalize w10.heap.size = bk at *
  clear bw B10 FX10 HQ lb
  go_upto_if 79 with fail
  go_cut [2] (fun v wx => ∃ m : Nat, v = .int .i64 (m : Nat) ∧ m ≤ 9223372036854775807 ∧ wx = w11)
  case first =>
    by_cases hn : which < 0
    · have e1 : Hid (-(which + 1) = (((-(which + 1)).toNat : Nat) : Int)) := by show _ = _; omega
      go_wp2
      go_meet
      exact ⟨(-(which + 1)).toNat, by rw [← e1.out], by omega, rfl⟩
    · have e1 : Hid (which = ((which.toNat : Nat) : Int)) := by show _ = _; omega
      go_wp2
      go_meet
      exact ⟨which.toNat, by rw [← e1.out], by omega, rfl⟩
  case rest =>
  obtain ⟨m, rfl, hm, hwx⟩ := hcut
  rw [hwx]
  clear hwx
  obtain ⟨k, hk⟩ : ∃ k, k = m % 11 := ⟨_, rfl⟩
  have hk11 : k < 11 := by omega
  have hkI : (k : Int) < 11 := by omega
  have hkt : (m : Int).tmod 11 = (k : Int) := by rw [hk, Int.tmod_eq_emod_of_nonneg (by omega)]; omega
  obtain ⟨z, hz⟩ : ∃ z, sgnsL[k]? = some z := ⟨_, List.getElem?_eq_getElem (show k < sgnsL.length from hk11)⟩
  have HZ : Hid (z ∈ sgnsL) := List.mem_of_getElem? hz
  have HS := sg_at k z hz
  have q1 := HQ2.out k _ HS.1
  have q2 := K11.out k _ HS.2
  have hzs : (ByteArray.mk z.1.toArray).size = z.1.length := size_mk z.1
  have hzl : z.1.length ≤ 3 := by
    have : ∀ z ∈ sgnsL, z.1.length ≤ 3 := by decide
    exact this z HZ.out
  clear hk hz HS HQ2 K11
  by_cases hl : 2000 < a.size + b.size + 4 + z.1.length
  · have hI : (2000 : Int) < (a.size : Int) + (b.size : Int) + 4 + (z.1.length : Int) := by omega
    clear Xx Xy Sx Sy
    go_wp2
    go_ret
    exact ⟨rfl, B11⟩
  have hI : ¬ (2000 : Int) < (a.size : Int) + (b.size : Int) + 4 + (z.1.length : Int) := by omega
  obtain ⟨q, tq, hJ⟩ := parse_join Px.out Py.out Pu.out Pv.out z HZ.out (by rw [HLa.out, HLb.out]; omega)
  have okz := parse_okT hJ
  have HJ := hJ
  have c := parse_a ((⟨#[40]⟩ : ByteArray) ++ a ++ ⟨#[41]⟩ ++ ⟨z.1.toArray⟩ ++ ⟨#[40]⟩ ++ b ++ ⟨#[41]⟩) w11 FX11 (by rw [join_size, hzs]; unfold maxLen; omega)
  rw [join_list] at c
  have ezl : (ByteArray.mk z.1.toArray).data.toList = z.1 := by simp
  rw [ezl, hJ] at c
  clear hJ HJ ezl
  obtain ⟨Z, hZ⟩ : ∃ Z : Ex, Z = ⟨(z.2.1 : Nat), 0, [], ((a.data.toList.length + 2 : Nat) : Int), (one ((x.mv 1).mv 0)).snoc ((y.mv 1).mv q)⟩ := ⟨_, rfl⟩
  rw [← hZ] at c okz
  have HZa : Hid (Z.a = ((a.size + 2 : Nat) : Int)) := by show _ = _; rw [hZ, HLa.out]
  have HZs : Hid (sameE Z ⟨(z.2.1 : Nat), 0, [], 0, (one x).snoc y⟩ = true) := by show _ = _; rw [hZ]; exact same_two x y _ _ q
  clear hZ Px Py Pu Pv
  go_wp2_with fail
  refine c.mono ?_
  rintro e w12 ⟨az, cz, rfl, SN, bw⟩
  clear c
  have B12 := B11.trans (bw.mono B11.size)
  have Sz := Sl.all SN
  have Sx := SlT.below Sx bw
  have Sy := SlT.below Sy bw
  have Xx := (bw.block _ (lt_of_block Xx)).trans Xx
  have Xy := (bw.block _ (lt_of_block Xy)).trans Xy
  have q2 := (bw.cell (p := ⟨bk, k, none⟩) lk).trans q2
  have b12s := bw.size
  clear SN bw q1
  have bw : Below w12.heap.size w12 (w12.alloc (.cells #[.int .i64 Z.k, .int .i64 Z.n, stv Z.nm, .slice az Z.kids.len cz, .int .i64 Z.a] 24)) := (Below.refl _ w12).alloc (Nat.le_refl _) _
  have Xz : (w12.alloc (.cells #[.int .i64 Z.k, .int .i64 Z.n, stv Z.nm, .slice az Z.kids.len cz, .int .i64 Z.a] 24)).heap[w12.heap.size]? = some (.cells #[.int .i64 Z.k, .int .i64 Z.n, stv Z.nm, .slice az Z.kids.len cz, .int .i64 Z.a] 24) := heap_alloc_new w12 _
  have B13 := B12.trans (bw.mono B12.size)
  have Sz := SlT.below Sz bw
  have Sx := SlT.below Sx bw
  have Sy := SlT.below Sy bw
  have Xx := (bw.block _ (lt_of_block Xx)).trans Xx
  have Xy := (bw.block _ (lt_of_block Xy)).trans Xy
  have lk := Nat.lt_of_lt_of_le lk b12s
  have q2 := (bw.cell (p := ⟨bk, k, none⟩) lk).trans q2
  have b13s := bw.size
  rw [exV_out]
  go_upto_region 16 with fail
  generalize w12.alloc (.cells #[.int .i64 Z.k, .int .i64 Z.n, stv Z.nm, .slice az Z.kids.len cz, .int .i64 Z.a] 24) = w13 at *
  generalize w12.heap.size = bqz at *
  clear bw B11 B12 FX11
  obtain ⟨x0, x1, x2, x3, x4, xf⟩ := box5 Xx
  obtain ⟨y0, y1, y2, y3, y4, yf⟩ := box5 Xy
  have bz1 : Below w13.heap.size w13 (w13.alloc (.cells #[.int .i64 0, .int .i64 0, .string ⟨#[]⟩, .slice none 0 0, .int .i64 0] 24)) := (Below.refl _ w13).alloc (Nat.le_refl _) _
  have xa0 := (bz1.cell (p := ⟨bqx, 0, none⟩) (lt_of_block Xx)).trans x0
  have xa1 := (bz1.cell (p := ⟨bqx, 1, none⟩) (lt_of_block Xx)).trans x1
  have xa2 := (bz1.cell (p := ⟨bqx, 2, none⟩) (lt_of_block Xx)).trans x2
  have xa3 := (bz1.cell (p := ⟨bqx, 3, none⟩) (lt_of_block Xx)).trans x3
  have xa4 := (bz1.cell (p := ⟨bqx, 4, none⟩) (lt_of_block Xx)).trans x4
  have ya0 := (bz1.cell (p := ⟨bqy, 0, none⟩) (lt_of_block Xy)).trans y0
  have ya1 := (bz1.cell (p := ⟨bqy, 1, none⟩) (lt_of_block Xy)).trans y1
  have ya2 := (bz1.cell (p := ⟨bqy, 2, none⟩) (lt_of_block Xy)).trans y2
  have ya3 := (bz1.cell (p := ⟨bqy, 3, none⟩) (lt_of_block Xy)).trans y3
  have ya4 := (bz1.cell (p := ⟨bqy, 4, none⟩) (lt_of_block Xy)).trans y4
  have lk := Nat.lt_of_lt_of_le lk b13s
  have qa := (bz1.cell (p := ⟨bk, k, none⟩) lk).trans q2
  clear bz1
  go_cut [26] (fun v wx => ∃ bz bl, v = .pointer (some ⟨bz, 0, none⟩) ∧ wx.heap[bz]? = some (.cells #[.int .i64 (z.2.1 : Nat), .int .i64 0, .string ⟨#[]⟩, .slice (some ⟨bl, 0, none⟩) 2 2, .int .i64 0] 24) ∧ wx.heap[bl]? = some (.cells #[.int .i64 x.k, .int .i64 x.n, stv x.nm, .slice ax x.kids.len cx, .int .i64 x.a, .int .i64 y.k, .int .i64 y.n, stv y.nm, .slice ay y.kids.len cy, .int .i64 y.a] 24) ∧ Below w13.heap.size w13 wx)
  case first =>
    go_region
    · have h := two_new w13 (.cells #[.int .i64 x.k, .int .i64 x.n, stv x.nm, .slice ax x.kids.len cx, .int .i64 x.a, .int .i64 y.k, .int .i64 y.n, stv y.nm, .slice ay y.kids.len cy, .int .i64 y.a] 24) (.cells #[.int .i64 (z.2.1 : Nat), .int .i64 0, .string ⟨#[]⟩, .slice (some ⟨w13.heap.size, 0, none⟩) 2 2, .int .i64 0] 24)
      go_wp2
      go_meet
      exact ⟨_, _, rfl, h.2.1, h.1, h.2.2⟩
    · have h := two_new w13 (.cells #[.int .i64 (z.2.1 : Nat), .int .i64 0, .string ⟨#[]⟩, .slice (some ⟨w13.heap.size + 1, 0, none⟩) 2 2, .int .i64 0] 24) (.cells #[.int .i64 x.k, .int .i64 x.n, stv x.nm, .slice ax x.kids.len cx, .int .i64 x.a, .int .i64 y.k, .int .i64 y.n, stv y.nm, .slice ay y.kids.len cy, .int .i64 y.a] 24)
      go_wp2
      go_meet
      exact ⟨_, _, rfl, h.1, h.2.1, h.2.2⟩
  case rest =>
  obtain ⟨bz, bl, rfl, Wz, Wl, bw⟩ := hcut
  clear xa0 xa1 xa2 xa3 xa4 ya0 ya1 ya2 ya3 ya4 qa x0 x1 x2 x3 x4 xf y0 y1 y2 y3 y4 yf q2
  have B14 := B13.trans (bw.mono B13.size)
  have Xz := (bw.block _ (lt_of_block Xz)).trans Xz
  have Sz := SlT.below Sz bw
  have Sx := SlT.below Sx bw
  have Sy := SlT.below Sy bw
  clear Xx Xy bw
  have SW : SlA _ ((one x).snoc y) (some ⟨bl, 0, none⟩) := .inr ⟨bl, 0, _, rfl, trivial, lt_of_block Wl, cells_ten (xs := [.int .i64 x.k, .int .i64 x.n, stv x.nm, .slice ax x.kids.len cx, .int .i64 x.a, .int .i64 y.k, .int .i64 y.n, stv y.nm, .slice ay y.kids.len cy, .int .i64 y.a]) Wl, (Fc.one cx Sx).app (Fc.one cy Sy)⟩
  have c := same_ok (Z.kids.size + 1) Z ⟨(z.2.1 : Nat), 0, [], 0, (one x).snoc y⟩ az (some ⟨bl, 0, none⟩) cz 2 _ (by omega) okz.fit.len okz.fit.sh (by show 2 ≤ 1000000000; omega) ⟨okx.fit.nm, okx.fit.len, okx.fit.sh, oky.fit.nm, oky.fit.len, oky.fit.sh, trivial⟩ Sz SW
  rw [HZs.out, exV_out, exV_out] at c
  have eL : ((one x).snoc y).len = 2 := rfl
  simp only [eL] at c
  have eN : stv [] = .string ⟨#[]⟩ := rfl
  rw [eN] at c
  obtain ⟨p0, p1, p2, p3, p4, pf⟩ := box5 Xz
  obtain ⟨q0, q1, q2, q3, q4, qf⟩ := box5 Wz
  have hat : (Z.a == (a.size : Int) + 2) = true := by rw [HZa.out]; simp
  clear HZa eL eN SW Sx Sy Wl
  go_wp2_with fail
  refine c.mono ?_
  rintro e w15 ⟨rfl, bw⟩
  clear c p0 p1 p2 p3 p4 pf q0 q1 q2 q3 q4 qf
  have B15 := B14.trans (bw.mono B14.size)
  have Xz := (bw.block _ (lt_of_block Xz)).trans Xz
  obtain ⟨p0, p1, p2, p3, p4, pf⟩ := box5 Xz
  clear bw Wz
  go_wp2
  go_ret
  exact ⟨rfl, B15⟩
end Go.Proofs.YtlmeonpdjcophaaDoor
