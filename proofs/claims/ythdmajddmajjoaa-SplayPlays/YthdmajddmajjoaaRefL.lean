/- The document's own forest: New, Free. -/
import Derived.Test.YthdmajddmajjoaaRefK
import Derived.Test.YthdmajddmajjoaaRefA2
namespace Go.Proofs.Ythdmajddmajjoaa
open Go.ChangeShapes Go.WideShapes Go.ChangeAt Go.RowKit
set_option linter.unusedVariables false

theorem infoItem3 : (Try.prog.info? 36).map (fun i => (i.zero, i.size, i.bytes)) = some (some (.agg #[.int .i64 0, .bool false, .int .i64 0]), 3, 24) := by kernel_rfl
theorem Row.made3 {w : World} {o : Nat → Nat} {i n : Nat} {e : TypeId} {size : Nat} {X : Array Value} {xs : List Value} (h : X.toList = xs) (hs : X.size = n * size) (hm : n ≤ maxLen) : Row (w.alloc (.cells X e)) (newLab w o i) i e size (.slice (some ⟨w.heap.size, 0, none⟩) n n) n xs := by
  subst h
  exact ⟨World.ownsRow_lit w X n (Nat.zero_le _) hm (by simp [hs]), fun k hk => by simp [Value.ownBlock] at hk; subst hk; exact newLab_new (Nat.le_refl _)⟩
theorem Rx.boxed {w3 : World} {o3 : Nat → Nat} {R room pa M : Nat} {vi vn : Value} {it : Nat → It} {S : Nat → List Nat} (hA : Rf w3 o3 (R + 1) pa room 0 []) (ri : Row w3 o3 (R + 4) 36 3 vi 1 (itcells [itz])) (rn : Row w3 o3 (R + 5) 3 1 vn 1 (intsL [0])) (hM : M ≤ 5500000000000) :
    Rx (w3.alloc (.cells #[.pointer (some ⟨pa, 0, none⟩), vi, vn, .slice none 0 0] 62)) (newLab w3 o3 R) R w3.heap.size room 0 M [] it S pa vi vn (.slice none 0 0) [itz] [0] [] [] := by
  have s := newStep (fun _ => False) w3 o3 R (.cells #[.pointer (some ⟨pa, 0, none⟩), vi, vn, .slice none 0 0] 62)
  have hno : ∀ k, ¬ Live 0 [] k := fun k hk => by have := hk.1; have := hk.2.1; omega
  exact ⟨⟨heap_alloc_new w3 _, newLab_new (Nat.le_refl _)⟩, hA.step s (fun _ _ => id), ri.step s id, rfl, rn.step s id, rfl, Row.nil _ _ _ _ _, rfl, fun i hi => by simp at hi, fun k hk => (hno k hk).elim, ⟨fun k hk => (hno k hk).elim, fun i hi => by simp at hi⟩, ⟨fun k hk => (hno k hk).elim, fun k hk => (hno k hk).elim, fun k hk => (hno k hk).elim⟩, by omega, by simp, hM⟩
theorem x_new_bad (w : World) (x : Int) (hx : x < 0 ∨ 1024 < x) :
    Calls Try.prog 6 #[.int .i64 x] w fun e w' => e = .returned (.tuple #[.pointer none, .int .i64 1]) ∧ w' = w := by
  rcases hx with hx | hx
  · go_enter Try.func6, Try.ntmps6
    go_wp2
    go_ret2
    exact ⟨rfl, rfl⟩
  · have hx0 : ¬ x < 0 := by omega
    go_enter Try.func6, Try.ntmps6
    go_wp2
    go_ret2
    exact ⟨rfl, rfl⟩
theorem x_new (w : World) (o : Nat → Nat) (R r M : Nat) (it : Nat → It) (S : Nat → List Nat) (hr : r ≤ 1024) (hM : M ≤ 5500000000000) :
    Calls Try.prog 6 #[.int .i64 r] w fun e w' => ∃ q, e = .returned (.tuple #[.pointer (some ⟨q, 0, none⟩), .int .i64 0]) ∧ ∃ o' pa vi vn, Rx w' o' R q r 0 M [] it S pa vi vn (.slice none 0 0) [itz] [0] [] [] ∧ Step (fun _ => False) w o w' o' := by
  have hx0 : ¬ (r : Int) < 0 := by omega
  have hx1 : ¬ (1024 : Int) < (r : Int) := by omega
  have c1 := refNew w o (R + 1) r (by omega)
  have mk1 : ∀ w : World, (Instr.makeSlice 59 (.int .i64 1) (.int .i64 1)).run Try.prog w = .ok (.slice (some ⟨w.heap.size, 0, none⟩) 1 1) (w.alloc (.cells #[.int .i64 0, .bool false, .int .i64 0] 36)) := fun w => by
    obtain ⟨ii, hii, hz0, hz1, hz2⟩ := info_parts infoItem3
    have := run_make (P := Try.prog) w 59 36 ii _ Try.underlying59 hii hz0 .i64 .i64 1 1 (by omega) (Int.le_refl _) (by rw [hz2]; omega) (by omega)
    rw [hz1, show madeCells (Value.agg #[.int .i64 0, .bool false, .int .i64 0]).cells (Int.toNat 1 * 3) = #[.int .i64 0, .bool false, .int .i64 0] by kernel_rfl] at this
    exact this
  have mk2 : ∀ w : World, (Instr.makeSlice 60 (.int .i64 1) (.int .i64 1)).run Try.prog w = .ok (.slice (some ⟨w.heap.size, 0, none⟩) 1 1) (w.alloc (.cells #[.int .i64 0] 3)) := fun w => by
    obtain ⟨ii, hii, hz0, hz1, hz2⟩ := info_parts infoInt
    have := run_make (P := Try.prog) w 60 3 ii _ Try.underlying60 hii hz0 .i64 .i64 1 1 (by omega) (Int.le_refl _) (by rw [hz2]; omega) (by omega)
    rw [hz1, show madeCells (Value.int .i64 0).cells (Int.toNat 1 * 1) = #[.int .i64 0] by kernel_rfl] at this
    exact this
  go_enter Try.func6, Try.ntmps6
  go_wp2_with fail
  refine c1.mono ?_
  rintro e w1 ⟨pa, rfl, o1, A1, s1⟩
  have sa : Step (fun _ => False) w1 o1 _ _ := newStep (fun _ => False) w1 o1 (R + 4) (.cells #[.int .i64 0, .bool false, .int .i64 0] 36)
  have ra : Row _ _ (R + 4) 36 3 _ 1 (itcells [itz]) := Row.made3 (w := w1) (o := o1) (i := R + 4) (n := 1) (e := 36) (size := 3) (X := #[.int .i64 0, .bool false, .int .i64 0]) rfl rfl (by unfold maxLen; omega)
  have sb := newStep (fun _ => False) (w1.alloc (.cells #[.int .i64 0, .bool false, .int .i64 0] 36)) (newLab w1 o1 (R + 4)) (R + 5) (.cells #[.int .i64 0] 3)
  have rb : Row _ _ (R + 5) 3 1 _ 1 (intsL [0]) := Row.made3 (w := w1.alloc (.cells #[.int .i64 0, .bool false, .int .i64 0] 36)) (o := newLab w1 o1 (R + 4)) (i := R + 5) (n := 1) (e := 3) (size := 1) (X := #[.int .i64 0]) rfl rfl (by unfold maxLen; omega)
  have X1 := Rx.boxed (it := it) (S := S) (A1.step (sa.trans sb) (fun _ _ => id)) (ra.step sb id) rb hM
  have Y1 := (s1.trans (sa.trans sb)).trans (newStep (fun _ => False) _ _ R (.cells #[.pointer (some ⟨pa, 0, none⟩), .slice (some ⟨w1.heap.size, 0, none⟩) 1 1, .slice (some ⟨(w1.alloc (.cells #[.int .i64 0, .bool false, .int .i64 0] 36)).heap.size, 0, none⟩) 1 1, .slice none 0 0] 62))
  have sa' : Step (fun _ => False) w1 o1 _ _ := newStep (fun _ => False) w1 o1 (R + 5) (.cells #[.int .i64 0] 3)
  have ra' : Row _ _ (R + 5) 3 1 _ 1 (intsL [0]) := Row.made3 (w := w1) (o := o1) (i := R + 5) (n := 1) (e := 3) (size := 1) (X := #[.int .i64 0]) rfl rfl (by unfold maxLen; omega)
  have sb' := newStep (fun _ => False) (w1.alloc (.cells #[.int .i64 0] 3)) (newLab w1 o1 (R + 5)) (R + 4) (.cells #[.int .i64 0, .bool false, .int .i64 0] 36)
  have rb' : Row _ _ (R + 4) 36 3 _ 1 (itcells [itz]) := Row.made3 (w := w1.alloc (.cells #[.int .i64 0] 3)) (o := newLab w1 o1 (R + 5)) (i := R + 4) (n := 1) (e := 36) (size := 3) (X := #[.int .i64 0, .bool false, .int .i64 0]) rfl rfl (by unfold maxLen; omega)
  have X2 := Rx.boxed (it := it) (S := S) (A1.step (sa'.trans sb') (fun _ _ => id)) rb' (ra'.step sb' id) hM
  have Y2 := (s1.trans (sa'.trans sb')).trans (newStep (fun _ => False) _ _ R (.cells #[.pointer (some ⟨pa, 0, none⟩), .slice (some ⟨(w1.alloc (.cells #[.int .i64 0] 3)).heap.size, 0, none⟩) 1 1, .slice (some ⟨w1.heap.size, 0, none⟩) 1 1, .slice none 0 0] 62))
  have D1 := X1.step ((Step.refl (fun _ => False) _ _).drew) (fun _ _ => id)
  have D2 := X2.step ((Step.refl (fun _ => False) _ _).drew) (fun _ _ => id)
  have E1 := Y1.drew
  have E2 := Y2.drew
  have z1 : (w1.alloc (.cells #[.int .i64 0, .bool false, .int .i64 0] 36)).heap.size = w1.heap.size + 1 := by simp
  have z2 : (w1.alloc (.cells #[.int .i64 0] 3)).heap.size = w1.heap.size + 1 := by simp
  have z3 : ((w1.alloc (.cells #[.int .i64 0, .bool false, .int .i64 0] 36)).alloc (.cells #[.int .i64 0] 3)).heap.size = w1.heap.size + 1 + 1 := by simp
  have z4 : ((w1.alloc (.cells #[.int .i64 0] 3)).alloc (.cells #[.int .i64 0, .bool false, .int .i64 0] 36)).heap.size = w1.heap.size + 1 + 1 := by simp
  rw [z3, z1] at D1
  rw [z4, z2] at D2
  rw [z1] at E1
  rw [z2] at E2
  clear z1 z2 z3 z4
  clear X1 X2 Y1 Y2 sa sb ra rb sa' sb' ra' rb' s1 A1
  clear c1
  go_wp2_with fail
  go_region
  all_goals go_wp2
  all_goals go_ret2
  · exact ⟨_, rfl, _, _, _, _, D1, E1⟩
  · exact ⟨_, rfl, _, _, _, _, D2, E2⟩
end Go.Proofs.Ythdmajddmajjoaa
