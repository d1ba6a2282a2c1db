/- Items such as may be, of raw ones that came in. -/
import Derived.Test.YtijgilkpmkgbjaaLaw
import Derived.Deep.RegionHeld3
namespace Go.Proofs.Ytijgilkpmkgbjaa
open Go.ChangeShapes Go.WideShapes Go.ChangeAt Go.RowKit
set_option linter.unusedVariables false

/-- A raw item that came in. -/
structure RawIt where
  v : Int
  c : Bool
  f : Int
/-- A slice of raw items that came in, only read. -/
def ArgIts (w : World) (ao : Option Addr) (len : Nat) (f : Nat → RawIt) : Prop :=
  ∀ j, j < len → ∃ b off, ao = some ⟨b, off, none⟩ ∧ b < w.heap.size ∧ w.cell? ⟨b, off + j * 3, none⟩ = some (.int .i64 (f j).v) ∧ w.cell? ⟨b, off + j * 3 + 1, none⟩ = some (.bool (f j).c) ∧ w.cell? ⟨b, off + j * 3 + 2, none⟩ = some (.int .i64 (f j).f) ∧ (-9223372036854775808 ≤ (f j).v ∧ (f j).v ≤ 9223372036854775807) ∧ (-9223372036854775808 ≤ (f j).f ∧ (f j).f ≤ 9223372036854775807)
theorem ArgIts.below {w w' : World} {ao : Option Addr} {len : Nat} {f : Nat → RawIt} (h : ArgIts w ao len f) (hb : Below w.heap.size w w') : ArgIts w' ao len f := by
  intro j hj
  obtain ⟨b, off, h1, h2, h3, h4, h5, h6⟩ := h j hj
  exact ⟨b, off, h1, Nat.lt_of_lt_of_le h2 hb.size, (hb.cell (p := ⟨b, off + j * 3, none⟩) h2).trans h3, (hb.cell (p := ⟨b, off + j * 3 + 1, none⟩) h2).trans h4, (hb.cell (p := ⟨b, off + j * 3 + 2, none⟩) h2).trans h5, h6⟩

/-- Items, as they lie in a slice. -/
def itsL : List It → List Value
  | [] => []
  | x :: xs => .int .i64 x.v :: .bool x.c :: .int .i64 x.f :: itsL xs
theorem itsL_append (xs ys : List It) : itsL (xs ++ ys) = itsL xs ++ itsL ys := by
  induction xs with
  | nil => rfl
  | cons x xs ih => simp [itsL, ih]
theorem itsL_length (xs : List It) : (itsL xs).length = xs.length * 3 := by
  induction xs with
  | nil => rfl
  | cons x xs ih => simp [itsL, ih]; omega
theorem itsL_get : ∀ (xs : List It) (j : Nat) (hj : j < xs.length), (itsL xs)[j * 3]? = some (.int .i64 xs[j].v) ∧ (itsL xs)[j * 3 + 1]? = some (.bool xs[j].c) ∧ (itsL xs)[j * 3 + 2]? = some (.int .i64 xs[j].f)
  | x :: xs, 0, _ => ⟨rfl, rfl, rfl⟩
  | x :: xs, j + 1, hj => by
    have := itsL_get xs j (by simpa using hj)
    have e : (j + 1) * 3 = j * 3 + 3 := by omega
    rw [e]
    simpa [itsL] using this

theorem infoItem : (Try.prog.info? 36).map (fun i => (i.zero, i.size, i.bytes)) = some (some (.agg #[.int .i64 0, .bool false, .int .i64 0]), 3, 24) := by kernel_rfl

theorem pick_int (c m : Int) (w : World) (h : -9223372036854775808 ≤ c ∧ c ≤ 9223372036854775807) (hm : 0 < m ∧ m ≤ 9223372036854775807) :
    Calls Try.prog 15 #[.int .i64 c, .int .i64 m] w fun e w' => ∃ r : Nat, (r : Int) < m ∧ e = .returned (.int .i64 r) ∧ w' = w := by
  have e : m = ((m.toNat : Nat) : Int) := by omega
  rw [e]
  refine (pick_any c m.toNat w h.1 h.2 (by omega) (by omega)).mono ?_
  rintro e w' ⟨r, hr, rfl, rfl⟩
  exact ⟨r, by omega, rfl, rfl⟩

theorem new_three_at {w : World} {s : Nat} (hs : w.heap.size = s) (x y z : Value) (t : TypeId) : ∀ j u, [x, y, z][j]? = some u → (w.alloc (.cells #[x, y, z] t)).cell? ((⟨s, 0, none⟩ : Addr).add j) = some u := by
  subst hs
  intro j u hj
  match j, hj with
  | 0, hj => simp at hj; subst hj; simp [Addr.add]
  | 1, hj => simp at hj; subst hj; simp [Addr.add]
  | 2, hj => simp at hj; subst hj; simp [Addr.add]

/-- What items leaves. -/
def ItemsOut (w : World) (o : Nat → Nat) (most lb : Nat) (e : Ending) (w' : World) : Prop := ∃ v its o', e = .returned v ∧ (0 < its.length ∧ its.length ≤ most) ∧ (∀ x ∈ its, It.may x) ∧ Row w' o' lb 36 3 v its.length (itsL its) ∧ Step (fun k => k = lb) w o w' o'

set_option maxRecDepth 100000 in
set_option maxHeartbeats 4000000 in
theorem items_any (w : World) (o : Nat → Nat) (ao : Option Addr) (len cap most lb : Nat) (f : Nat → RawIt) (ha : ArgIts w ao len f) (hlen : len ≤ 9223372036854775807) (hmost : 0 < most ∧ most ≤ 200) (hlb : ∀ k, k < w.heap.size → o k ≠ lb) (hlb9 : lb ≠ 2999) :
    Calls Try.prog 12 #[.slice ao len cap, .int .i64 most] w fun e w' => ItemsOut w o most lb e w' := by
  obtain ⟨ii, hii, hzi0, hzi1, hzi2⟩ := info_parts infoItem
  go_enter Try.func12, Try.ntmps12
  go_wp2
  go_loopw [5, 6] (fun v u wr => ∃ (k : Nat) (its : List It) (o' : Nat → Nat), u = .int .i64 (k : Nat) ∧ k ≤ len ∧ k ≤ most ∧ its.length = k ∧ (∀ x ∈ its, It.may x) ∧ Row wr o' lb 36 3 v k (itsL its) ∧ Step (fun k => k = lb) w o wr o') (fun _ u _ => len - (intOf u).toNat)
  case atStart => exact ⟨0, [], o, by go_num, by omega, by omega, rfl, by simp, Row.nil _ _ _ _ _, Step.refl _ _ _⟩
  case round =>
    obtain ⟨k, its, o3, rfl, hk, hkm, hil, hmay, r3, s3⟩ := hrel
    by_cases hlt : k < len ∧ k < most
    · obtain ⟨h1, h2⟩ := hlt
      have hb3 := s3.below hlb
      obtain ⟨b, off, rfl, hb, m0, m1, m2, bv, bf⟩ := ha.below hb3 k h1
      obtain ⟨xv, hxv⟩ : ∃ x, x = (f k).v := ⟨_, rfl⟩
      obtain ⟨xc, hxc⟩ : ∃ x, x = (f k).c := ⟨_, rfl⟩
      obtain ⟨xf, hxf⟩ : ∃ x, x = (f k).f := ⟨_, rfl⟩
      rw [← hxv] at m0 bv
      rw [← hxc] at m1
      rw [← hxf] at m2 bf
      have fm := r3.form
      obtain ⟨ar, cr, rfl⟩ := fm
      have n4 : Step (fun k => k = lb) wr o3 (wr.alloc (.cells #[.int .i64 xv, .bool xc, .int .i64 xf] 36)) (newLab wr o3 2999) := newStep _ _ _ _ _
      have B4 : Blk (wr.alloc (.cells #[.int .i64 xv, .bool xc, .int .i64 xf] 36)) (newLab wr o3 2999) 2999 wr.heap.size (.cells #[.int .i64 xv, .bool xc, .int .i64 xf] 36 (0, 0)) := ⟨heap_alloc_new wr _, newLab_new (Nat.le_refl _)⟩
      have HC : Hid (∀ wx ox, Step (fun k => k = lb) (wr.alloc (.cells #[.int .i64 xv, .bool xc, .int .i64 xf] 36)) (newLab wr o3 2999) wx ox → (wx.cell? ⟨wr.heap.size, 0, none⟩ = some (.int .i64 xv) ∧ wx.cell? ⟨wr.heap.size, 1, none⟩ = some (.bool xc) ∧ wx.cell? ⟨wr.heap.size, 2, none⟩ = some (.int .i64 xf))) := fun wx ox s => by
        obtain ⟨b0, b1, b2, _⟩ := (B4.step s hlb9.symm).cells3
        exact ⟨b0, b1, b2⟩
      have t4 : Step (fun k => k = lb) (wr.alloc (.cells #[.int .i64 xv, .bool xc, .int .i64 xf] 36)) (newLab wr o3 2999) (wr.alloc (.cells #[.int .i64 xv, .bool xc, .int .i64 xf] 36)).drew (newLab wr o3 2999) := (Step.refl _ _ _).drew
      have R4 := r3.step (newStep (fun _ => False) wr o3 2999 (.cells #[.int .i64 xv, .bool xc, .int .i64 xf] 36)) id
      have b1 : k + 1 ≤ maxLen := by unfold maxLen; omega
      have hd1 : (2199023255553 : Int) > 0 ∧ (2199023255553 : Int) ≤ 9223372036854775807 := by omega
      have hd2 : (256 : Int) > 0 ∧ (256 : Int) ≤ 9223372036854775807 := by omega
      clear ha hb3 hxv hxc hxf B4
      go_wp2_with fail
      go_region_held3 (fun wx => wx.cell? ⟨wr.heap.size, 0, none⟩ = some (.int .i64 xv) ∧ wx.cell? ⟨wr.heap.size, 1, none⟩ = some (.bool xc) ∧ wx.cell? ⟨wr.heap.size, 2, none⟩ = some (.int .i64 xf)) (first | (with_reducible exact HC.out _ _ t6) | (with_reducible exact HC.out _ _ t4) | (with_reducible exact HC.out _ _ (((Step.refl _ _ _).alloc _).drew))) ((first
        | (go_at_call 15; first | (have hz := hr1; refine (pick_int _ _ _ bf hd2).mono ?_; rintro e w' ⟨r2, hr2, rfl, rfl⟩) | (refine (pick_int _ _ _ bv hd1).mono ?_; rintro e w' ⟨r1, hr1, rfl, rfl⟩; have hw : IntKind.i64.wrap ((r1 : Int) - 1099511627776) = (r1 : Int) - 1099511627776 := (by rw [IntKind.wrap_i64]; omega)))
        | (refine step_append_lab rfl (.tmp 23) (.tmp 34) 41 rfl 36 ii (.agg #[.int .i64 0, .bool false, .int .i64 0]) 3 24 Try.underlying41 hii hzi0 hzi1 hzi2 rfl (by decide) (newLab wr o3 2999) lb (.slice ar k cr) k (itsL its) (by simp [Act.eval]) (R4.step (((Step.refl (fun _ => False) (wr.alloc (.cells #[.int .i64 xv, .bool xc, .int .i64 xf] 36)) (newLab wr o3 2999)).alloc _).drew) (by simp)) ⟨wr.heap.size + 1, 0, none⟩ 1 1 [.int .i64 ((r1 : Int) - 1099511627776), .bool xc, .int .i64 r2] (by simp [Act.eval]) rfl (new_three_at (by simp) _ _ _ _) (by intro u hu; simp at hu; rcases hu with rfl | rfl | rfl <;> rfl) (by decide) b1 (by omega) ?_; intro g5 c5 w5 o5 r5 s5; have t6 := (((Step.refl (fun k => k = lb) (wr.alloc (.cells #[.int .i64 xv, .bool xc, .int .i64 xf] 36)) (newLab wr o3 2999)).alloc _).drew).trans s5)))
      all_goals
        have e5 : itsL its ++ [.int .i64 ((r1 : Int) - 1099511627776), .bool xc, .int .i64 r2] = itsL (its ++ [⟨(r1 : Int) - 1099511627776, xc, r2⟩]) := by rw [itsL_append]; rfl
        rw [e5] at r5
        have S6 := (s3.trans n4).trans t6
        have hm6 : ∀ x ∈ its ++ [(⟨(r1 : Int) - 1099511627776, xc, r2⟩ : It)], It.may x := fun x hx => by
          rcases List.mem_append.1 hx with hx | hx
          · exact hmay x hx
          · simp at hx; subst hx; exact ⟨by show -1099511627776 ≤ (r1 : Int) - 1099511627776; omega, by show (r1 : Int) - 1099511627776 ≤ 1099511627776; omega, by show r2 ≤ 255; omega⟩
        have HL : Hid ((its ++ [(⟨(r1 : Int) - 1099511627776, xc, r2⟩ : It)]).length = k + 1) := by simp [Hid, hil]
        clear HC t4 t6 R4 n4 r3 s3 e5 m0 m1 m2 s5
        go_wp2
        go_roundw
        case rel => (try ((repeat apply Exists.intro); refine ⟨?_, rfl⟩)); exact ⟨k + 1, _, o5, by go_num, by omega, by omega, HL.out, hm6, r5, S6⟩
        case measure => simp [intOf]; omega
    · have hfm := r3.form
      obtain ⟨ar, cr, rfl⟩ := hfm
      by_cases k0 : k = 0
      · subst k0
        obtain rfl : its = [] := List.length_eq_zero_iff.1 hil
        have h1 : len = 0 := by omega
        subst h1
        have b1 : 0 + 1 ≤ maxLen := by unfold maxLen; omega
        clear ha hlt
        go_wp2_with (first | (at_builtin; refine wpList_append_lab rfl (.tmp 39) (.tmp 41) 41 rfl 36 ii (.agg #[.int .i64 0, .bool false, .int .i64 0]) 3 24 Try.underlying41 hii hzi0 hzi1 hzi2 rfl (by decide) o3 lb _ 0 (itsL []) rfl (r3.step (allocStep (fun _ => False) _ o3 _) (by simp)) ⟨wr.heap.size, 0, none⟩ 1 1 [.int .i64 1, .bool true, .int .i64 0] rfl rfl (new_three_at (by simp) _ _ _ _) (by intro u hu; simp at hu; rcases hu with rfl | rfl | rfl <;> rfl) (by decide) b1 (by omega) ?_) | go_in)
        intro g5 c5 w5 o5 r5 s5
        have S6 := s3.trans ((allocStep (fun k => k = lb) wr o3 _).trans s5)
        clear r3 s3 s5
        go_wp2
        go_ret
        exact ⟨_, [⟨1, true, 0⟩], o5, rfl, ⟨by simp, by simp; omega⟩, by intro x hx; simp at hx; subst hx; exact ⟨by decide, by decide, by decide⟩, r5, S6⟩
      · have hk1 : ¬ ((k : Int) < (len : Int) ∧ (k : Int) < (most : Int)) := by omega
        have hke : ((k : Int) == 0) = false := by simp only [beq_eq_false_iff_ne, ne_eq]; omega
        have HL : Hid (its.length = k) := hil
        clear ha hil
        by_cases hkl : k < len
        · have hkm2 : ¬ (k : Int) < (most : Int) := by omega
          go_wp2
          go_ret
          exact ⟨_, its, o3, rfl, ⟨by rw [HL.out]; omega, by rw [HL.out]; omega⟩, hmay, by rw [HL.out]; exact r3, s3⟩
        · have hkm2 : ¬ (k : Int) < (len : Int) := by omega
          go_wp2
          go_ret
          exact ⟨_, its, o3, rfl, ⟨by rw [HL.out]; omega, by rw [HL.out]; omega⟩, hmay, by rw [HL.out]; exact r3, s3⟩

end Go.Proofs.Ytijgilkpmkgbjaa
