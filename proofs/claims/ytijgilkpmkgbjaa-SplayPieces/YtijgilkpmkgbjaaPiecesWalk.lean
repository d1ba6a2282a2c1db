/- The walk of the law SplayPieces. -/
import Derived.Test.YtijgilkpmkgbjaaRowF
import Derived.Test.YtijgilkpmkgbjaaPieceWalk
import Derived.Test.YtijgilkpmkgbjaaGetF
import Derived.Test.YtijgilkpmkgbjaaCut
import Derived.Test.YtijgilkpmkgbjaaStands
import Derived.Test.YtijgilkpmkgbjaaWithW
namespace Go.Proofs.Ytijgilkpmkgbjaa
open Go.ChangeShapes Go.WideShapes Go.ChangeAt Go.RowKit
set_option linter.unusedVariables false

theorem made_items : ∀ n : Nat, (madeCells (Value.agg #[.int .i64 0, .bool false, .int .i64 0]).cells (n * 3)).toList = itsL (List.replicate n ⟨0, false, 0⟩) := by
  intro n
  induction n with
  | zero => simp [madeCells, itsL]
  | succ n ih =>
    rw [List.replicate_succ', itsL_append, ← ih]
    have e : (n + 1) * 3 = n * 3 + 1 + 1 + 1 := by omega
    rw [e]
    have m0 : n * 3 % 3 = 0 := by omega
    have m1 : (n * 3 + 1) % 3 = 1 := by omega
    have m2 : (n * 3 + 1 + 1) % 3 = 2 := by omega
    simp [madeCells, List.range_succ, Value.cells, m0, m1, m2, itsL]
theorem its_set (x z : It) (B : List It) : ∀ A : List It, (((itsL (A ++ z :: B)).set (A.length * 3) (.int .i64 x.v)).set (A.length * 3 + 1) (.bool x.c)).set (A.length * 3 + 2) (.int .i64 x.f) = itsL (A ++ x :: B)
  | [] => by simp [itsL]
  | a :: A => by
    have ih := its_set x z B A
    have e : (a :: A).length * 3 = A.length * 3 + 3 := by simp; omega
    rw [e]
    simpa [itsL] using ih
theorem Row.put3 {w : World} {o : Nat → Nat} {i : Nat} {e : TypeId} {size g n cap : Nat} {xs : List Value} (h : Row w o i e size (.slice (some ⟨g, 0, none⟩) n cap) n xs) (j : Nat) (u v x : Value) :
    Row (((w.setCell ⟨g, j, none⟩ u).setCell ⟨g, j + 1, none⟩ v).setCell ⟨g, j + 2, none⟩ x) o i e size (.slice (some ⟨g, 0, none⟩) n cap) n (((xs.set j u).set (j + 1) v).set (j + 2) x) := ((h.store j u).store (j + 1) v).store (j + 2) x
/-- What is laid of all so far. -/
def ownL (xs : List Nat) (it : Nat → It) (j : Nat) : List It := (xs.map it).take j ++ List.replicate (xs.length - j) ⟨0, false, 0⟩
theorem ownL_len {xs : List Nat} {it : Nat → It} {j : Nat} (h : j ≤ xs.length) : (ownL xs it j).length = xs.length := by simp [ownL]; omega
theorem ownL_zero (xs : List Nat) (it : Nat → It) : ownL xs it 0 = List.replicate xs.length ⟨0, false, 0⟩ := by simp [ownL]
theorem ownL_all (xs : List Nat) (it : Nat → It) : ownL xs it xs.length = xs.map it := by
  unfold ownL
  rw [Nat.sub_self, List.replicate_zero, List.append_nil, List.take_of_length_le (by simp)]
theorem ownL_set {xs : List Nat} {it : Nat → It} {j : Nat} (h : j < xs.length) : (((itsL (ownL xs it j)).set (j * 3) (.int .i64 (it xs[j]).v)).set (j * 3 + 1) (.bool (it xs[j]).c)).set (j * 3 + 2) (.int .i64 (it xs[j]).f) = itsL (ownL xs it (j + 1)) := by
  have e1 : ownL xs it j = (xs.map it).take j ++ ⟨0, false, 0⟩ :: List.replicate (xs.length - (j + 1)) ⟨0, false, 0⟩ := by
    unfold ownL
    rw [show xs.length - j = (xs.length - (j + 1)) + 1 by omega, List.replicate_succ]
  have e2 : ownL xs it (j + 1) = (xs.map it).take j ++ it xs[j] :: List.replicate (xs.length - (j + 1)) ⟨0, false, 0⟩ := by
    unfold ownL
    rw [List.take_succ_eq_append_getElem (by simpa using h)]
    simp
  have hl : ((xs.map it).take j).length = j := by simp; omega
  have := its_set (it xs[j]) ⟨0, false, 0⟩ (List.replicate (xs.length - (j + 1)) ⟨0, false, 0⟩) ((xs.map it).take j)
  rw [hl] at this
  rw [e1, e2]; exact this
theorem Row.vwI {w : World} {o : Nat → Nat} {i g n cap : Nat} {its : List It} (h : Row w o i 36 3 (.slice (some ⟨g, 0, none⟩) n cap) n (itsL its)) (hn : n = its.length) (h0 : 0 < n) : VwI w o i (.slice (some ⟨g, 0, none⟩) n cap) its := by
  subst hn
  obtain ⟨g', cap', hv', h1, h2, h3, h4, h5, _⟩ := h.pos h0
  simp only [Value.slice.injEq, Option.some.injEq, Addr.mk.injEq, and_true, true_and] at hv'
  obtain ⟨rfl, rfl⟩ := hv'
  refine ⟨g, 0, cap, rfl, h2, h3, h1, h4, fun j hj => ?_⟩
  obtain ⟨i0, i1, i2⟩ := itsL_get its j hj
  rw [Nat.zero_add]
  exact ⟨(h5 _ (by omega)).trans i0, (h5 _ (by omega)).trans i1, (h5 _ (by omega)).trans i2⟩
/-- The state while items are asked for. -/
def OwnS (w : World) (p n : Nat) (S : Nat → List Nat) (xs : List Nat) (va : Value) (it : Nat → It) (vo : Value) (j : Nat) (wr : World) : Prop :=
  ∃ o', Fo wr o' 1 p 1024 n [] it S ∧ Row wr o' 2002 3 1 va n (intsL xs) ∧ Row wr o' 6101 36 3 vo n (itsL (ownL xs it j)) ∧ Step Pos w o0 wr o'
/-- Places where it is cut. -/
structure Fst (n : Nat) (fs : List Nat) : Prop where
  rise : Rising fs
  head : ∃ l, fs = 0 :: l
  lt : ∀ m ∈ fs, m < n
theorem Fst.ins {n k : Nat} {fs : List Nat} (h : Fst n fs) (hk : k < n) : Fst n (ins fs k) := by
  obtain ⟨l, rfl⟩ := h.head
  refine ⟨ins_rising h.rise, ins_head, fun m hm => ?_⟩
  rcases mem_ins.1 hm with hm | rfl
  · exact h.lt m hm
  · exact hk
/-- The state while it is cut. -/
def CutS (w : World) (p n : Nat) (xs : List Nat) (va : Value) (it : Nat → It) (vo : Value) (j : Nat) (vf : Value) (wr : World) : Prop :=
  ∃ o' S lab fs, Fo wr o' 1 p 1024 n [] it S ∧ Pcs S xs (fun m => m ∈ fs) ∧ Fst n fs ∧ fs.length ≤ j + 1 ∧ (lab = 6201 ∨ lab = 6202) ∧ Vw wr o' lab vf fs ∧ Row wr o' 2002 3 1 va n (intsL xs) ∧ Row wr o' 6101 36 3 vo n (itsL (xs.map it)) ∧ Step Pos w o0 wr o'

theorem rising_get {fs : List Nat} (h : Rising fs) {i j : Nat} (hi : i < fs.length) (hj : j < fs.length) (hij : i < j) : fs[i] < fs[j] := List.pairwise_iff_getElem.1 h i j hi hj hij
/-- The place that is next. -/
def nxt (n : Nat) (fs : List Nat) (j : Nat) : Nat := if h : j < fs.length then fs[j] else n
theorem Fst.gap {n : Nat} {fs : List Nat} (h : Fst n fs) {j : Nat} (hj : j < fs.length) : Gap n (fun m => m ∈ fs) fs[j] (nxt n fs (j + 1)) := by
  have hn := h.lt _ (List.getElem_mem hj)
  by_cases e : j + 1 < fs.length
  · have en : nxt n fs (j + 1) = fs[j + 1] := by simp [nxt, e]
    rw [en]
    refine ⟨rising_get h.rise hj e (by omega), Nat.le_of_lt (h.lt _ (List.getElem_mem e)), List.getElem_mem hj, .inr (List.getElem_mem e), fun m a b hm => ?_⟩
    obtain ⟨i, hi, rfl⟩ := List.mem_iff_getElem.1 hm
    have h1 : j < i := by
      rcases Nat.lt_trichotomy i j with x | x | x
      · have := rising_get h.rise hi hj x; omega
      · subst x; omega
      · exact x
    have h2 : i < j + 1 := by
      rcases Nat.lt_trichotomy i (j + 1) with x | x | x
      · exact x
      · subst x; omega
      · have := rising_get h.rise e hi x; omega
    omega
  · have en : nxt n fs (j + 1) = n := by simp [nxt, e]
    rw [en]
    refine ⟨hn, Nat.le_refl _, List.getElem_mem hj, .inl rfl, fun m a b hm => ?_⟩
    obtain ⟨i, hi, rfl⟩ := List.mem_iff_getElem.1 hm
    rcases Nat.lt_trichotomy i j with x | x | x
    · have := rising_get h.rise hi hj x; omega
    · subst x; omega
    · omega
/-- A part of a row, only read. -/
theorem Row.part {w : World} {o : Nat → Nat} {i g n cap lo hi : Nat} {xs : List Nat} (h : Row w o i 3 1 (.slice (some ⟨g, 0, none⟩) n cap) n (intsL xs)) (hn : xs.length = n) (h1 : lo < hi) (h2 : hi ≤ n) : Vw w o i (.slice (some ⟨g, lo, none⟩) (hi - lo) (cap - lo)) (seg xs lo hi) := by
  obtain ⟨g', cap', hv', a1, a2, a3, a4, a5, _⟩ := h.pos (by omega)
  simp only [Value.slice.injEq, Option.some.injEq, Addr.mk.injEq, and_true, true_and] at hv'
  obtain ⟨rfl, rfl⟩ := hv'
  have hl := seg_len (xs := xs) (lo := lo) (hi := hi) (by omega)
  refine ⟨_, _, by rw [hl], by rw [hl]; omega, by omega, fun _ => ⟨g, lo, rfl, a1, a4, fun j hj => ?_⟩⟩
  rw [hl] at hj
  rw [a5 (lo + j) (by omega), seg_get (by omega) hj]
  exact intsL_get xs (lo + j) (by omega)
theorem Row.partI {w : World} {o : Nat → Nat} {i g n cap lo hi : Nat} {xs : List Nat} {it : Nat → It} (h : Row w o i 36 3 (.slice (some ⟨g, 0, none⟩) n cap) n (itsL (xs.map it))) (hn : xs.length = n) (h1 : lo < hi) (h2 : hi ≤ n) : VwI w o i (.slice (some ⟨g, lo * 3, none⟩) (hi - lo) (cap - lo)) ((seg xs lo hi).map it) := by
  obtain ⟨g', cap', hv', a1, a2, a3, a4, a5, _⟩ := h.pos (by omega)
  simp only [Value.slice.injEq, Option.some.injEq, Addr.mk.injEq, and_true, true_and] at hv'
  obtain ⟨rfl, rfl⟩ := hv'
  have hl := seg_len (xs := xs) (lo := lo) (hi := hi) (by omega)
  refine ⟨g, lo * 3, cap - lo, by rw [List.length_map, hl], by rw [List.length_map, hl]; omega, by omega, a1, a4, fun j hj => ?_⟩
  rw [List.length_map, hl] at hj
  obtain ⟨i0, i1, i2⟩ := itsL_get (xs.map it) (lo + j) (by simp; omega)
  have e : ((seg xs lo hi).map it)[j]'(by simp [hl]; omega) = (xs.map it)[lo + j]'(by simp; omega) := by
    rw [List.getElem_map, List.getElem_map, seg_get (by omega) hj]
  rw [e]
  have e1 : lo * 3 + j * 3 = (lo + j) * 3 := by omega
  rw [e1]
  exact ⟨(a5 _ (by omega)).trans i0, (a5 _ (by omega)).trans i1, (a5 _ (by omega)).trans i2⟩
/-- The state while pieces are looked at. -/
def PieS (w : World) (p n : Nat) (S : Nat → List Nat) (xs : List Nat) (va : Value) (it : Nat → It) (vo : Value) (lab : Nat) (fs : List Nat) (vf : Value) (wr : World) : Prop :=
  ∃ o', Fo wr o' 1 p 1024 n [] it S ∧ Vw wr o' lab vf fs ∧ Row wr o' 2002 3 1 va n (intsL xs) ∧ Row wr o' 6101 36 3 vo n (itsL (xs.map it)) ∧ Step Pos w o0 wr o'

/-- What is not joined yet. -/
def Qj (fs : List Nat) (j m : Nat) : Prop := m = 0 ∨ ∃ i, j ≤ i ∧ fs[i]? = some m
theorem Qj.one {n : Nat} {fs : List Nat} (h : Fst n fs) (m : Nat) : m ∈ fs ↔ Qj fs 1 m := by
  obtain ⟨l, e⟩ := h.head
  constructor
  · intro hm
    obtain ⟨i, hi, rfl⟩ := List.mem_iff_getElem.1 hm
    by_cases e0 : i = 0
    · subst e0; left; simp [e]
    · exact .inr ⟨i, by omega, List.getElem?_eq_getElem hi⟩
  · rintro (rfl | ⟨i, _, hi⟩)
    · rw [e]; simp
    · exact List.mem_of_getElem? hi
theorem Qj.pos {n : Nat} {fs : List Nat} (h : Fst n fs) {j : Nat} (hj : j < fs.length) (h1 : 1 ≤ j) : 0 < fs[j] := by
  have := rising_get h.rise (show 0 < fs.length by omega) hj (by omega)
  omega
theorem Qj.no {n : Nat} {fs : List Nat} (h : Fst n fs) {j : Nat} (hj : j < fs.length) : ∀ m, 0 < m → m < fs[j] → ¬ Qj fs j m := by
  rintro m a b (rfl | ⟨i, hi, e⟩)
  · omega
  · obtain ⟨hil, rfl⟩ := List.getElem?_eq_some_iff.1 e
    rcases Nat.lt_or_ge j i with x | x
    · have := rising_get h.rise hj hil x; omega
    · obtain rfl : i = j := by omega
      omega
theorem Qj.next {n : Nat} {fs : List Nat} (h : Fst n fs) {j : Nat} (hj : j < fs.length) (h1 : 1 ≤ j) (m : Nat) : (Qj fs j m ∧ m ≠ fs[j]) ↔ Qj fs (j + 1) m := by
  have hp := Qj.pos h hj h1
  constructor
  · rintro ⟨rfl | ⟨i, hi, e⟩, hne⟩
    · exact .inl rfl
    · refine .inr ⟨i, ?_, e⟩
      rcases Nat.lt_or_ge j i with x | x
      · omega
      · obtain rfl : i = j := by omega
        obtain ⟨hil, rfl⟩ := List.getElem?_eq_some_iff.1 e
        exact absurd rfl hne
  · rintro (rfl | ⟨i, hi, e⟩)
    · exact ⟨.inl rfl, by omega⟩
    · obtain ⟨hil, rfl⟩ := List.getElem?_eq_some_iff.1 e
      have := rising_get h.rise hj hil (by omega)
      exact ⟨.inr ⟨i, by omega, e⟩, by omega⟩
theorem Qj.all {fs : List Nat} (m : Nat) : Qj fs fs.length m ↔ m = 0 := by
  constructor
  · rintro (h | ⟨i, hi, e⟩)
    · exact h
    · obtain ⟨hil, _⟩ := List.getElem?_eq_some_iff.1 e; omega
  · exact .inl
/-- The state while pieces are joined. -/
def JoS (w : World) (p n : Nat) (xs : List Nat) (va : Value) (it : Nat → It) (vo : Value) (lab : Nat) (fs : List Nat) (vf : Value) (j : Nat) (wr : World) : Prop :=
  ∃ o' S, Fo wr o' 1 p 1024 n [] it S ∧ Pcs S xs (Qj fs j) ∧ Vw wr o' lab vf fs ∧ Row wr o' 2002 3 1 va n (intsL xs) ∧ Row wr o' 6101 36 3 vo n (itsL (xs.map it)) ∧ Step Pos w o0 wr o'

set_option maxRecDepth 100000 in
set_option maxHeartbeats 8000000 in
theorem pieces_walk (w : World) (cf : Int) (a0 ah ac : Option Addr) (len0 cap0 lenh caph lenc capc : Nat) (f : Nat → RawIt) (z y : Nat → Int) (ha0 : ArgIts w a0 len0 f) (hah : Arg w ah lenh z) (hac : Arg w ac lenc y) (h1 : len0 ≤ 9223372036854775807) (h2 : lenh ≤ 9223372036854775807) (h3 : lenc ≤ 9223372036854775807) (hcf : -9223372036854775808 ≤ cf ∧ cf ≤ 9223372036854775807) :
    Calls Try.prog 4 #[.slice a0 len0 cap0, .slice ah lenh caph, .slice ac lenc capc, .int .i64 cf] w fun e w' => e = .returned (.bool true) ∧ Below w.heap.size w w' := by
  obtain ⟨ii, hii, hzi0, hzi1, hzi2⟩ := info_parts infoItem
  have npos : ¬ Pos 0 := by unfold Pos; omega
  go_enter Try.func4, Try.ntmps4
  go_wp2_with fail
  refine (awake_any w).mono ?_
  rintro e w1 ⟨rfl, hb1⟩
  have t1 : Step Pos w o0 w1 o0 := Step.ofBelow o0 hb1
  go_wp2_with fail
  refine (items_any w1 o0 a0 len0 cap0 120 2001 f (ha0.below hb1) h1 (by omega) (fun k _ => by unfold o0; omega) (by omega)).mono ?_
  rintro e w2 ⟨vi, its, o2, rfl, ⟨hi1, hi2⟩, hmay, ri, s2⟩
  have t2 := t1.trans (s2.mono (J := Pos) fun k hk => by unfold Pos; omega)
  have H2 := hah.at0.step t2 npos
  have hvi := ri.form
  obtain ⟨ai, ci, rfl⟩ := hvi
  have nF : ∀ k, 2000 ≤ k → ¬ FL 1 k := fun k hk h => by have := h.2; omega
  clear t1 s2 hb1
  go_wp2_with fail
  refine (row_any w2 o2 2002 2001 _ its ah lenh caph z ri hmay (by omega) H2 h2 (nF _ (by omega)) (by omega) (by omega) (nF _ (by omega))).mono ?_
  rintro e w3 ⟨p, v3, xs, o3, it, S, rfl, F3, O3, _, r3, s3⟩
  have t3 := t2.trans (s3.mono (J := Pos) fun k hk => by unfold Pos; rcases hk with hk | hk; have := hk.1; omega; omega)
  have hxl := O3.len
  rw [hxl] at r3
  obtain ⟨ga, ca, rfl, hrest⟩ := r3.pos (by omega)
  have HO : Hid (One its.length S xs) := O3
  have HX : Hid (xs.length = its.length) := hxl
  clear H2 ri hmay t2 s3 hrest O3
  go_wp2_with (at_make; refine wpList_make_full _ rfl _ _ 41 rfl w3.heap.size 36 ii (.agg #[.int .i64 0, .bool false, .int .i64 0]) 3 Try.underlying41 hii hzi0 hzi1 .i64 .i64 _ _ its.length rfl rfl rfl rfl ?b2 ?b3 (Nat.le_refl _) ?_)
  case b2 => rw [hzi2]; omega
  case b3 => unfold maxLen; omega
  intro w9 hown hgr
  have s9 : Step (fun _ => False) w3 o3 w9 (newLab w3 o3 6101) := ⟨hgr.os, hgr.tape, hgr.output, hgr.size, fun k hk => newLab_old hk, fun k hk _ => hgr.block k hk (by simp)⟩
  have r9 : Row w9 (newLab w3 o3 6101) 6101 36 3 (.slice (some ⟨w3.heap.size, 0, none⟩) its.length its.length) its.length (itsL (ownL xs it 0)) := by
    refine ⟨?_, fun k hk => ?_⟩
    · have := ownsRow_base0 hown
      rw [ownL_zero, HX.out, ← made_items]
      exact this
    · simp [Value.ownBlock] at hk; subst hk; exact newLab_new (Nat.le_refl _)
  have START : OwnS w p its.length S xs (.slice (some ⟨ga, 0, none⟩) its.length ca) it (.slice (some ⟨w3.heap.size, 0, none⟩) its.length its.length) 0 w9 := ⟨_, F3.quiet s9, r3.step s9 id, r9, t3.trans s9.pos0⟩
  obtain ⟨go, hgo⟩ : ∃ go, go = w3.heap.size := ⟨_, rfl⟩
  rw [← hgo] at START ⊢
  clear hown hgr s9 r9 F3 r3 t3 hgo
  go_wp2
  go_loopg [14] its.length (fun gh i wx => ∃ j : Nat, i = .int .i64 (j : Nat) ∧ j ≤ its.length ∧ gh = its.length - j ∧ OwnS w p its.length S xs (.slice (some ⟨ga, 0, none⟩) its.length ca) it (.slice (some ⟨go, 0, none⟩) its.length its.length) j wx)
  case atStart => exact ⟨0, by go_num, by omega, by omega, START⟩
  case round =>
    clear START
    obtain ⟨j, rfl, hj, rfl, o10, F10, r10, ro10, t10⟩ := hrel
    obtain ⟨ga', ca', hv', hg1, hg2, hg3, hg4, hg5, hg6⟩ := r10.pos (by omega)
    simp only [Value.slice.injEq, Option.some.injEq, Addr.mk.injEq, and_true, true_and] at hv'
    obtain ⟨rfl, rfl⟩ := hv'
    unfold maxLen at hg3
    by_cases hjn : j < its.length
    · have hjx : j < xs.length := by rw [HX.out]; exact hjn
      have cj := (hg5 j (by omega)).trans (intsL_get xs j hjx)
      have hjI : (j : Int) < (its.length : Int) := by omega
      have lj := HO.out.live (List.getElem_mem hjx)
      have hget := getInF wr o10 1 p 1024 its.length [] it S xs[j] F10 lj
      unfold itemV at hget
      have HR : Hid (∀ w11, Step (fun _ => False) wr o10 w11 o10 → ∀ yj : It, it xs[j] = yj → OwnS w p its.length S xs (.slice (some ⟨ga, 0, none⟩) its.length ca) it (.slice (some ⟨go, 0, none⟩) its.length its.length) (j + 1) ((((w11.setCell ⟨go, j * 3, none⟩ (.int .i64 yj.v)).setCell ⟨go, j * 3 + 1, none⟩ (.bool yj.c)).setCell ⟨go, j * 3 + 2, none⟩ (.int .i64 yj.f)).alloc (.cells #[.int .i64 yj.v, .bool yj.c, .int .i64 yj.f] 36))) := fun w11 s11 yj hyj => by
        have ro12 := ro10.step s11 id
        obtain ⟨g', c', hv', hl1, _⟩ := ro12.pos (by omega)
        simp only [Value.slice.injEq, Option.some.injEq, Addr.mk.injEq, and_true, true_and] at hv'
        obtain ⟨rfl, _⟩ := hv'
        have ro13 := ro12.put3 (j * 3) (.int .i64 yj.v) (.bool yj.c) (.int .i64 yj.f)
        have e := ownL_set (it := it) hjx
        rw [hyj] at e
        rw [e] at ro13
        have s13 : Step (fun k => k = 6101) w11 o10 (((w11.setCell ⟨go, j * 3, none⟩ (.int .i64 yj.v)).setCell ⟨go, j * 3 + 1, none⟩ (.bool yj.c)).setCell ⟨go, j * 3 + 2, none⟩ (.int .i64 yj.f)) o10 := (((Step.refl _ _ _).setCell _ _ hl1).setCell _ _ hl1).setCell _ _ hl1
        have n14 := newStep (fun _ => False) (((w11.setCell ⟨go, j * 3, none⟩ (.int .i64 yj.v)).setCell ⟨go, j * 3 + 1, none⟩ (.bool yj.c)).setCell ⟨go, j * 3 + 2, none⟩ (.int .i64 yj.f)) o10 6102 (.cells #[.int .i64 yj.v, .bool yj.c, .int .i64 yj.f] 36)
        exact ⟨_, ((F10.quiet s11).step s13 (fun k hk e => nF 6101 (by omega) (e ▸ hk))).quiet n14, ((r10.step s11 id).step s13 (by omega)).step n14 id, ro13.step n14 id, ((t10.trans s11.pos0).trans (s13.mono (J := Pos) fun k hk => by unfold Pos; omega)).trans n14.pos0⟩
      have HOC : Hid (∀ w11, Step (fun _ => False) wr o10 w11 o10 → (∃ c0 c1 c2, w11.cell? ⟨go, j * 3, none⟩ = some c0 ∧ w11.cell? ⟨go, j * 3 + 1, none⟩ = some c1 ∧ w11.cell? ⟨go, j * 3 + 2, none⟩ = some c2) ∧ (∀ i, w11.frozen? ⟨go, i, none⟩ = false) ∧ go < w11.heap.size) := fun w11 s11 => by
        obtain ⟨g', c', hv', hl1, hl2, hl3, hl4, hl5, hl6⟩ := (ro10.step s11 id).pos (by omega)
        simp only [Value.slice.injEq, Option.some.injEq, Addr.mk.injEq, and_true, true_and] at hv'
        obtain ⟨rfl, _⟩ := hv'
        obtain ⟨i0, i1, i2⟩ := itsL_get (ownL xs it j) j (by rw [ownL_len (by omega)]; exact hjx)
        exact ⟨⟨_, _, _, (hl5 _ (by omega)).trans i0, (hl5 _ (by omega)).trans i1, (hl5 _ (by omega)).trans i2⟩, hl6, hl4⟩
      obtain ⟨yj, hyj⟩ : ∃ yj, it xs[j] = yj := ⟨_, rfl⟩
      rw [hyj] at hget
      have HYX : Hid (it xs[j] = yj) := hyj
      clear hg5 hg6 F10 r10 ro10 t10 lj hyj
      go_wp2_with fail
      refine hget.mono ?_
      rintro e w11 ⟨rfl, s11⟩
      have R := HR.out w11 s11 yj HYX.out
      obtain ⟨⟨u0, u1, u2, v0, v1, v2⟩, vf, gl⟩ := HOC.out w11 s11
      have hne2 : go ≠ w11.heap.size := by omega
      have hne4 := hne2.symm
      clear hget HR HOC cj s11
      go_wp2
      go_roundg (its.length - (j + 1))
      case measure => omega
      case rel => exact ⟨j + 1, by go_num, by omega, rfl, R⟩
    · obtain rfl : j = its.length := by omega
      have hro := ro10
      rw [← HX.out, ownL_all, HX.out] at hro
      have n11 := newStep (fun _ => False) wr o10 6201 (.cells #[.int .i64 0] 3)
      have V11 : Vw (wr.alloc (.cells #[.int .i64 0] 3)) (newLab wr o10 6201) 6201 (.slice (some ⟨wr.heap.size, 0, none⟩) 1 1) [0] := by
        refine ⟨_, _, rfl, by simp, by unfold maxLen; omega, fun h => ⟨_, 0, rfl, newLab_new (Nat.le_refl _), by simp, fun j hj => ?_⟩⟩
        have hb : (wr.alloc (.cells #[.int .i64 0] 3)).heap[wr.heap.size]? = some (.cells #[.int .i64 0] 3 (0, 0)) := heap_alloc_new wr _
        obtain rfl : j = 0 := by simp at hj; exact hj
        rw [cell_of_row _ _ _ _ 3 (0, 0) hb]; rfl
      have START : CutS w p its.length xs (.slice (some ⟨ga, 0, none⟩) its.length ca) it (.slice (some ⟨go, 0, none⟩) its.length its.length) 0 (.slice (some ⟨wr.heap.size, 0, none⟩) 1 1) (wr.alloc (.cells #[.int .i64 0] 3)) :=
        ⟨_, S, 6201, [0], F10.quiet n11, (Pcs.start HO.out).congr (fun m _ => by simp), ⟨by simp [Rising], ⟨[], rfl⟩, fun m hm => by simp at hm; omega⟩, by simp, .inl rfl, V11, r10.step n11 id, hro.step n11 id, t10.trans n11.pos0⟩
      clear n11 V11 hro F10 r10 ro10 t10 hg5 hg6
      go_wp2
      go_loopg [17, 18] 20 (fun gh vf i wx => ∃ k : Nat, i = .int .i64 (k : Nat) ∧ k ≤ lenc ∧ k ≤ 20 ∧ gh = 20 - k ∧ CutS w p its.length xs (.slice (some ⟨ga, 0, none⟩) its.length ca) it (.slice (some ⟨go, 0, none⟩) its.length its.length) k vf wx)
      case atStart => exact ⟨0, by go_num, by omega, by omega, by omega, START⟩
      case round =>
        clear START
        obtain ⟨k, rfl, hk, hk20, rfl, o12, S2, lab, fs, F12, P12, Q12, hfl, hlab, V12, r12, ro12, t12⟩ := hrel
        obtain ⟨ga', ca', hv', hg1, hg2', hg3', hg4, hg5, hg6⟩ := r12.pos (by omega)
        simp only [Value.slice.injEq, Option.some.injEq, Addr.mk.injEq, and_true, true_and] at hv'
        obtain ⟨rfl, rfl⟩ := hv'
        have HCA : Hid (∀ wx ox, Step (fun k => FL 1 k ∨ 6000 ≤ k) wr o12 wx ox → ∀ j (hj : j < xs.length), wx.cell? ⟨ga, j, none⟩ = some (.int .i64 (xs[j] : Nat))) := fun wx ox s j hj => by
          rw [s.cell hg4 (by rw [hg1]; exact fun h => h.elim (nF _ (by omega)) (by omega)), hg5 j (by rw [← HX.out]; omega)]; exact intsL_get xs j hj
        have hnd := HO.out.nodup
        have h0f : 0 ∈ fs := by obtain ⟨l, e⟩ := Q12.head; rw [e]; simp
        clear hg5 hg6 hg2' hg3'
        by_cases hlt : k < lenc ∧ k < 20
        · obtain ⟨hlt1, hlt2⟩ := hlt
          obtain ⟨bc, offc, rfl, hbc, hoc, hcc, hyb1, hyb2⟩ := hac.at0.step t12 npos k hlt1
          have hpk := pick_any (y k) its.length wr hyb1 hyb2 (by omega) (by omega)
          obtain ⟨af, cf', rfl, hcf1, hcf2, hcf3⟩ := id V12
          clear hcf3
          go_wp2_with fail
          refine hpk.mono ?_
          rintro e w13 ⟨r, hr, rfl, hw13⟩
          obtain rfl : wr = w13 := hw13.symm
          have hrx : r < xs.length := by rw [HX.out]; exact hr
          obtain ⟨A, B, hS, hP⟩ := P12.split hnd h0f hrx
          have hsp := splitInF wr o12 1 p 1024 its.length [] it S2 xs[r] A B F12 (HO.out.live (List.getElem_mem hrx)) hS
          have cr := HCA.out wr o12 (Step.refl _ _ _) r hrx
          have hP2 : Pcs (splitS S2 A xs[r] B) xs (fun m => m ∈ ins fs r) := hP.congr (fun m _ => mem_ins.symm)
          obtain ⟨S3, hS3⟩ : ∃ S3, S3 = splitS S2 A xs[r] B := ⟨_, rfl⟩
          rw [← hS3] at hsp hP2
          obtain ⟨a, ha⟩ : ∃ a, a = xs[r] := ⟨_, rfl⟩
          rw [← ha] at hsp cr
          have hrI : (r : Int) < (its.length : Int) := by omega
          clear hpk hS hP hS3 ha hcc F12 P12
          go_wp2_with fail
          refine hsp.mono ?_
          rintro e w14 ⟨rfl, o14, F14, s14⟩
          obtain ⟨oth, hoth, hne⟩ : ∃ oth, (oth = 6201 ∨ oth = 6202) ∧ oth ≠ lab := by
            rcases hlab with rfl | rfl
            · exact ⟨6202, .inr rfl, by omega⟩
            · exact ⟨6201, .inl rfl, by omega⟩
          have V14 := V12.step s14 (nF _ (by omega))
          have hwi := with_any w14 o14 oth lab _ fs r V14 Q12.rise (by omega) (by omega) (fun e => hne e.symm)
          clear hsp cr
          go_wp2_with fail
          refine hwi.mono ?_
          rintro e w15 ⟨vn, o15, rfl, r15, s15⟩
          have G : CutS w p its.length xs (.slice (some ⟨ga, 0, none⟩) its.length ca) it (.slice (some ⟨go, 0, none⟩) its.length its.length) (k + 1) vn w15 :=
            ⟨o15, S3, oth, ins fs r, F14.step s15 (fun k hk e => nF k (by omega) hk), hP2, Q12.ins hr, by have := ins_len (fs := fs) (k := r); omega, hoth, r15.vw, (r12.step s14 (nF _ (by omega))).step s15 (by omega), (ro12.step s14 (nF _ (by omega))).step s15 (by omega), (t12.trans (s14.posF (by omega))).trans (s15.mono (J := Pos) fun k hk => by unfold Pos; omega)⟩
          clear hwi V14 F14 s14 r15 s15 V12 r12 ro12 t12 Q12 hP2 HCA
          go_wp2
          go_roundg (20 - (k + 1))
          case measure => omega
          case rel => exact ⟨k + 1, by go_num, by omega, by omega, rfl, G⟩
        · have hend : (k : Int) < (lenc : Int) → ¬ (k : Int) < 20 := by omega
          have hpf := pick_any cf 256 wr hcf.1 hcf.2 (by omega) (by omega)
          obtain ⟨af, cf', rfl, hcf1, hcf2, hcf3⟩ := id V12
          clear hcf3
          have HQ : Hid (Fst its.length fs) := Q12
          have HP : Hid (Pcs S2 xs (fun m => m ∈ fs)) := P12
          unfold maxLen at hcf2
          by_cases hl1 : k < lenc
          all_goals
            have hl2 : ¬ (k : Int) < 20 ∨ ¬ (k : Int) < (lenc : Int) := by omega
            go_wp2_with fail
            refine hpf.mono ?_
            rintro e w13 ⟨fl, hfl256, rfl, hw13⟩
            obtain rfl : wr = w13 := hw13.symm
            have START : PieS w p its.length S2 xs (.slice (some ⟨ga, 0, none⟩) its.length ca) it (.slice (some ⟨go, 0, none⟩) its.length its.length) lab fs (.slice af fs.length cf') wr := ⟨o12, F12, V12, r12, ro12, t12⟩
            have hga3 : ca ≤ 9223372036854775807 := hg3
            clear hpf F12 V12 r12 ro12 t12 Q12 P12 HCA hend hl2
            go_wp2
            go_loopg [21] fs.length (fun gh i wx => ∃ j : Nat, i = .int .i64 (j : Nat) ∧ j ≤ fs.length ∧ gh = fs.length - j ∧ PieS w p its.length S2 xs (.slice (some ⟨ga, 0, none⟩) its.length ca) it (.slice (some ⟨go, 0, none⟩) its.length its.length) lab fs (.slice af fs.length cf') wx)
            case atStart => exact ⟨0, by go_num, by omega, by omega, START⟩
            case round =>
              clear START
              obtain ⟨j, rfl, hj, rfl, o20, F20, V20, r20, ro20, t20⟩ := hrel
              by_cases hjl : j < fs.length
              · have gp := HQ.out.gap hjl
                obtain ⟨hi, hhi⟩ : ∃ hi, hi = nxt its.length fs (j + 1) := ⟨_, rfl⟩
                rw [← hhi] at gp
                obtain ⟨lo, hlo⟩ : ∃ lo, lo = fs[j] := ⟨_, rfl⟩
                rw [← hlo] at gp
                have gp1 := gp.lt
                have gp2 := gp.le
                have VP := r20.part HX.out gp1 gp2
                have VI := ro20.partI HX.out gp1 gp2
                have hsl := seg_len (xs := xs) (lo := lo) (hi := hi) (by rw [HX.out]; exact gp2)
                have hms : ∀ x ∈ seg xs lo hi, ∃ j, ∃ (hj : j < xs.length), lo ≤ j ∧ j < hi ∧ xs[j] = x := fun x hx => (mem_seg (by rw [HX.out]; exact gp2)).1 hx
                have hsd : Step (fun _ => False) wr o20 wr.drew o20 := (Step.refl _ _ _).drew
                have hpc := piece_any wr.drew o20 2004 2002 6101 p 1024 its.length [] it S2 (seg xs lo hi) fl _ _ (F20.quiet hsd) (by rw [hsl]; omega) (by omega) (fun x hx => by obtain ⟨j, hj, _, _, rfl⟩ := hms x hx; exact HO.out.live (List.getElem_mem hj)) (fun x hx => by
                  obtain ⟨j, hj, a1, a2, rfl⟩ := hms x hx
                  exact HP.out lo hi (by rw [HX.out]; exact gp) j hj a1 a2) (VP.step hsd id) (VI.step hsd id) (fun h => h.elim (nF _ (by omega)) (by omega)) (fun h => h.elim (nF _ (by omega)) (by omega)) (nF _ (by omega)) (by omega)
                obtain ⟨aa, cc, hvv, hf1, hf2, hf3⟩ := id V20
                simp only [Value.slice.injEq, true_and] at hvv
                obtain ⟨rfl, rfl⟩ := hvv
                obtain ⟨gf, off, rfl, hf4, hf5, hf6⟩ := hf3 (by omega)
                clear hf3
                have HCF : Hid (∀ wx ox, Step (PL 2004) wr o20 wx ox → ∀ i (hi : i < fs.length), wx.cell? ⟨gf, off + i, none⟩ = some (.int .i64 (fs[i] : Nat))) := fun wx ox s i hi => by
                  rw [s.cell hf5 (by rw [hf4]; exact fun h => h.elim (nF _ (by omega)) (by omega))]; exact hf6 i hi
                have nPL : ∀ k, (k = 2002 ∨ k = 6101 ∨ k = 6201 ∨ k = 6202) → ¬ PL 2004 k := fun k hk h => h.elim (nF _ (by omega)) (by omega)
                have HG : Hid (∀ wx ox, Fo wx ox 1 p 1024 its.length [] it S2 → Step (PL 2004) wr.drew o20 wx ox → PieS w p its.length S2 xs (.slice (some ⟨ga, 0, none⟩) its.length ca) it (.slice (some ⟨go, 0, none⟩) its.length its.length) lab fs (.slice (some ⟨gf, off, none⟩) fs.length cf') wx) := fun wx ox Fx s => by
                  have s' := (hsd.mono (J := PL 2004) fun _ h => h.elim).trans s
                  exact ⟨ox, Fx, V20.step s' (nPL _ (by rcases hlab with rfl | rfl; exact .inr (.inr (.inl rfl)); exact .inr (.inr (.inr rfl)))), r20.step s' (nPL _ (.inl rfl)), ro20.step s' (nPL _ (.inr (.inl rfl))), t20.trans (s'.mono (J := Pos) fun k hk => by unfold Pos; rcases hk with hk | hk | hk | hk; have := hk.1; omega; omega; omega; omega)⟩
                have c0 := HCF.out wr o20 (Step.refl _ _ _) j hjl
                have c0d := HCF.out wr.drew o20 ((Step.refl _ _ _).drew) j hjl
                rw [← hlo] at c0 c0d
                have HCJ : Hid (∀ wx ox, Step (PL 2004) wr.drew o20 wx ox → wx.cell? ⟨gf, off + j, none⟩ = some (.int .i64 (lo : Nat))) := fun wx ox s => by
                  rw [hlo]; exact HCF.out wx ox ((hsd.mono (J := PL 2004) fun _ h => h.elim).trans s) j hjl
                have e1 : ((hi : Int) - (lo : Int)).toNat = hi - lo := by omega
                have e2 : ((ca : Int) - (lo : Int)).toNat = ca - lo := by omega
                have e3 : ((its.length : Int) - (lo : Int)).toNat = its.length - lo := by omega
                have q1 : (lo : Int) ≤ (hi : Int) := by omega
                have q2 : (hi : Int) ≤ (ca : Int) := by omega
                have q3 : (hi : Int) ≤ (its.length : Int) := by omega
                have hjI : (j : Int) < (fs.length : Int) := by omega
                have hnc : ¬ ca = lo := by omega
                have hnl : ¬ its.length = lo := by omega
                by_cases hj1 : j + 1 < fs.length
                · have en : hi = fs[j + 1] := by rw [hhi]; simp [nxt, hj1]
                  have c1 := HCF.out wr o20 (Step.refl _ _ _) (j + 1) hj1
                  rw [← en] at c1
                  have hj1I : (j : Int) + 1 < (fs.length : Int) := by omega
                  clear hf6 VP VI F20 V20 r20 ro20 t20 HCF en gp hlo hhi hms hsl
                  go_wp2_with fail
                  go_region_held (fun wx => wx.cell? ⟨gf, off + j, none⟩ = some (.int .i64 (lo : Nat))) (first | (with_reducible exact k1) | (with_reducible exact c0d)) ((go_at_call 18; refine hpc.mono ?_; rintro e w21 ⟨rfl, o21, F21, s21⟩; have k1 := HCJ.out _ _ s21; have G := HG.out _ _ F21 s21))
                  all_goals
                    clear hpc F21 s21 k1 HCJ HG c0 c0d
                    go_wp2
                    go_roundg (fs.length - (j + 1))
                    case measure => omega
                    case rel => exact ⟨j + 1, by go_num, by omega, rfl, G⟩
                · have en : hi = its.length := by rw [hhi]; simp [nxt, hj1]
                  have hj1I : ¬ (j : Int) + 1 < (fs.length : Int) := by omega
                  clear hf6 VP VI F20 V20 r20 ro20 t20 HCF gp hlo hhi hms hsl
                  subst en
                  go_wp2_with fail
                  go_region_held (fun wx => wx.cell? ⟨gf, off + j, none⟩ = some (.int .i64 (lo : Nat))) (first | (with_reducible exact k1) | (with_reducible exact c0d)) ((go_at_call 18; refine hpc.mono ?_; rintro e w21 ⟨rfl, o21, F21, s21⟩; have k1 := HCJ.out _ _ s21; have G := HG.out _ _ F21 s21))
                  all_goals
                    clear hpc F21 s21 k1 HCJ HG c0 c0d
                    go_wp2
                    go_roundg (fs.length - (j + 1))
                    case measure => omega
                    case rel => exact ⟨j + 1, by go_num, by omega, rfl, G⟩
              · obtain rfl : j = fs.length := by omega
                have hfs1 : 1 ≤ fs.length := by obtain ⟨l, e⟩ := HQ.out.head; rw [e]; simp
                have START : JoS w p its.length xs (.slice (some ⟨ga, 0, none⟩) its.length ca) it (.slice (some ⟨go, 0, none⟩) its.length its.length) lab fs (.slice af fs.length cf') 1 wr := ⟨o20, S2, F20, HP.out.congr (fun m _ => Qj.one HQ.out m), V20, r20, ro20, t20⟩
                clear F20 V20 r20 ro20 t20
                go_wp2
                go_loopg [24] fs.length (fun gh i wx => ∃ j : Nat, i = .int .i64 (j : Nat) ∧ 1 ≤ j ∧ j ≤ fs.length ∧ gh = fs.length + 1 - j ∧ JoS w p its.length xs (.slice (some ⟨ga, 0, none⟩) its.length ca) it (.slice (some ⟨go, 0, none⟩) its.length its.length) lab fs (.slice af fs.length cf') j wx)
                case atStart => exact ⟨1, by go_num, by omega, by omega, by omega, START⟩
                case round =>
                  clear START
                  obtain ⟨j, rfl, hj1, hj, rfl, o30, S4, F30, P30, V30, r30, ro30, t30⟩ := hrel
                  by_cases hjl : j < fs.length
                  · obtain ⟨aa, cc, hvv, hf1, hf2, hf3⟩ := id V30
                    simp only [Value.slice.injEq, true_and] at hvv
                    obtain ⟨rfl, rfl⟩ := hvv
                    obtain ⟨gf, off, rfl, hf4, hf5, hf6⟩ := hf3 (by omega)
                    clear hf3
                    obtain ⟨ga', ca', hv', hq1, hq2, hq3, hq4, hq5, hq6⟩ := r30.pos (by omega)
                    simp only [Value.slice.injEq, Option.some.injEq, Addr.mk.injEq, and_true, true_and] at hv'
                    obtain ⟨rfl, rfl⟩ := hv'
                    have hkn : fs[j] < its.length := HQ.out.lt _ (List.getElem_mem hjl)
                    have hkx : fs[j] < xs.length := by rw [HX.out]; exact hkn
                    have hx0 : 0 < xs.length := by omega
                    have hpos := Qj.pos HQ.out hjl hj1
                    obtain ⟨hne, hPJ⟩ := P30.join HO.out.nodup (.inl rfl) hkx (.inr ⟨j, Nat.le_refl _, List.getElem?_eq_getElem hjl⟩) hpos (Qj.no HQ.out hjl)
                    have hPJ2 := hPJ.congr (fun m _ => Qj.next HQ.out hjl hj1 m)
                    have hjo := joinInF wr.drew o30 1 p 1024 its.length [] it S4 xs[0] xs[fs[j]] (F30.quiet ((Step.refl _ _ _).drew)) (HO.out.live (List.getElem_mem hx0)) (HO.out.live (List.getElem_mem hkx)) hne
                    have HK : Hid (∀ wx ox, Step (FL 1) wr o30 wx ox → wx.cell? ⟨ga, 0, none⟩ = some (.int .i64 (xs[0] : Nat)) ∧ wx.cell? ⟨gf, off + j, none⟩ = some (.int .i64 (fs[j] : Nat)) ∧ wx.cell? ⟨ga, fs[j], none⟩ = some (.int .i64 (xs[fs[j]] : Nat))) := fun wx ox s => by
                      have hcx : ∀ i (hi : i < xs.length), wx.cell? ⟨ga, i, none⟩ = some (.int .i64 (xs[i] : Nat)) := fun i hi => by
                        rw [s.cell hq4 (by rw [hq1]; exact nF _ (by omega)), hq5 i (by rw [← HX.out]; omega)]; exact intsL_get xs i hi
                      exact ⟨hcx 0 hx0, by rw [s.cell hf5 (by rw [hf4]; exact nF _ (by omega))]; exact hf6 j hjl, hcx _ hkx⟩
                    obtain ⟨S5, hS5⟩ : ∃ S5, S5 = joinS S4 xs[0] xs[fs[j]] := ⟨_, rfl⟩
                    rw [← hS5] at hjo hPJ2
                    obtain ⟨kk, hkk⟩ : ∃ kk, kk = fs[j] := ⟨_, rfl⟩
                    obtain ⟨x0, hx0e⟩ : ∃ x0, x0 = xs[0] := ⟨_, rfl⟩
                    obtain ⟨xk, hxk⟩ : ∃ xk, xk = xs[fs[j]] := ⟨_, rfl⟩
                    rw [← hx0e, ← hxk] at hjo
                    rw [← hx0e, ← hxk, ← hkk] at HK
                    rw [← hkk] at hkn
                    have sdd : Step (FL 1) wr o30 wr.drew o30 := (Step.refl _ _ _).drew
                    have k0 := HK.out _ _ sdd
                    have HG : Hid (∀ wx ox, Fo wx ox 1 p 1024 its.length [] it S5 → Step (FL 1) wr.drew o30 wx ox → JoS w p its.length xs (.slice (some ⟨ga, 0, none⟩) its.length ca) it (.slice (some ⟨go, 0, none⟩) its.length its.length) lab fs (.slice (some ⟨gf, off, none⟩) fs.length cf') (j + 1) wx) := fun wx ox Fx s => by
                      have s' := sdd.trans s
                      exact ⟨ox, S5, Fx, hPJ2, V30.step s' (nF _ (by omega)), r30.step s' (nF _ (by omega)), ro30.step s' (nF _ (by omega)), t30.trans (s'.posF (by omega))⟩
                    have hjI : (j : Int) < (fs.length : Int) := by omega
                    have hkI : (kk : Int) < (its.length : Int) := by omega
                    have hnI : (0 : Int) < (its.length : Int) := by omega
                    clear hne hPJ hPJ2 hS5 hkk hx0e hxk hq5 hq6 hf6 F30 P30 V30 r30 ro30 t30 hkx hx0 hpos
                    go_wp2_with fail
                    go_region_held (fun wx => wx.cell? ⟨ga, 0, none⟩ = some (.int .i64 (x0 : Nat)) ∧ wx.cell? ⟨gf, off + j, none⟩ = some (.int .i64 (kk : Nat)) ∧ wx.cell? ⟨ga, kk, none⟩ = some (.int .i64 (xk : Nat))) (first | (with_reducible exact k1) | (with_reducible exact k0)) ((go_at_call 19; refine hjo.mono ?_; rintro e w31 ⟨rfl, o31, F31, s31⟩; have k1 := HK.out _ _ (sdd.trans s31); have G := HG.out _ _ F31 s31))
                    all_goals
                      clear hjo F31 s31 k1 k0 HK HG sdd
                      go_wp2
                      go_roundg (fs.length + 1 - (j + 1))
                      case measure => omega
                      case rel => exact ⟨j + 1, by go_num, by omega, by omega, rfl, G⟩
                  · obtain rfl : j = fs.length := by omega
                    have hwh := (P30.congr (fun m _ => Qj.all m)).whole
                    have O30 : One its.length S4 xs := ⟨HO.out.nodup, HO.out.mem, hwh, HO.out.len⟩
                    have va : Vw wr o30 2002 (.slice (some ⟨ga, 0, none⟩) its.length ca) xs := by
                      have := r30
                      rw [← HX.out] at this ⊢
                      exact this.vw
                    have vo := ro30.vwI (by rw [List.length_map, HX.out]) (by omega)
                    have hpc := piece_any wr o30 2004 2002 6101 p 1024 its.length [] it S4 xs fl _ _ F30 (by rw [HX.out]; omega) (by omega) (fun k hk => O30.live hk) (fun k hk => O30.seq k hk) va vo (fun h => h.elim (nF _ (by omega)) (by omega)) (fun h => h.elim (nF _ (by omega)) (by omega)) (nF _ (by omega)) (by omega)
                    have nPL : ¬ PL 2004 2002 := fun h => h.elim (nF _ (by omega)) (by omega)
                    clear F30 P30 V30 r30 ro30 vo hwh
                    go_wp2_with fail
                    refine hpc.mono ?_
                    rintro e w32 ⟨rfl, o32, F32, s32⟩
                    have t32 := t30.trans (s32.mono (J := Pos) fun k hk => by unfold Pos; rcases hk with hk | hk | hk | hk; have := hk.1; omega; omega; omega; omega)
                    have hsd := stands_any w32 o32 2005 2002 p 1024 its.length it S4 _ xs F32 O30 (va.step s32 nPL) (by rw [HX.out]; omega) (nF _ (by omega)) (nF _ (by omega)) (by omega)
                    clear hpc F32 s32 va t30
                    go_wp2_with fail
                    refine hsd.mono ?_
                    rintro e w33 ⟨rfl, o33, F33, s33⟩
                    have t33 := (t32.trans (s33.mono (J := Pos) fun k hk => by unfold Pos; rcases hk with hk | hk; have := hk.1; omega; omega)).old
                    clear hsd F33 s33 t32
                    go_wp2
                    go_ret
                    exact ⟨rfl, t33⟩

end Go.Proofs.Ytijgilkpmkgbjaa
