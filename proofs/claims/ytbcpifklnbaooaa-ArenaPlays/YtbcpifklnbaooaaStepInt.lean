/- One side of the law ArenaPlays (int): one call of a script, all kinds but 6. -/
import Derived.Test.YtbcpifklnbaooaaPutInt
import Derived.Deep.RegionHeld
namespace Go.Proofs.Ytbcpifklnbaooaa
open Go.ChangeShapes Go.WideShapes Go.ChangeAt Go.RowKit
set_option linter.unusedVariables false

/-- An Op as a value. -/
abbrev opInt (kd x y : Int) (b : Bool) : Value := .agg #[.int .i64 kd, .int .i64 x, .int .i64 y, .bool b]

theorem stepPutInt (w : World) (o : Nat → Nat) (S ps : Nat) (x y : Int) (b : Bool) (v : Int) (h : SideXInt w o S ps) :
    Calls Try.prog 12 #[.pointer (some ⟨ps, 0, none⟩), opInt 1 x y b, Value.int .i64 v] w fun e w' => e = .returned (.bool true) ∧ ∃ o', SideXInt w' o' S ps ∧ Step (SL S) w o w' o' := by
  have hA : ∀ ob, SideXInt (w.alloc ob) o S ps := fun ob => h.step (allocStep (fun _ => False) w o ob) (fun _ _ => id)
  go_enter Try.func12, Try.ntmps12
  go_wp2_with fail
  refine (putInt _ o S ps v (hA _)).mono ?_
  rintro e w1 ⟨rfl, o1, h1, s1⟩
  have s0 := (allocStep (SL S) w o _).trans s1
  clear s1 h hA
  go_wp2
  go_ret
  exact ⟨rfl, o1, h1, s0⟩

theorem stepGetInt (w : World) (o : Nat → Nat) (S ps : Nat) (x y : Int) (b : Bool) (v : Int) (h : SideXInt w o S ps) :
    Calls Try.prog 12 #[.pointer (some ⟨ps, 0, none⟩), opInt 3 x y b, Value.int .i64 v] w fun e w' => e = .returned (.bool true) ∧ ∃ o', SideXInt w' o' S ps ∧ Step (SL S) w o w' o' := by
  have hA : ∀ ob, SideXInt (w.alloc ob) o S ps := fun ob => h.step (allocStep (fun _ => False) w o ob) (fun _ _ => id)
  have hg : ∀ ob, Calls Try.prog 41 #[.pointer (some ⟨ps, 0, none⟩), .int .i64 x] (w.alloc ob) fun e w' => e = .returned (.bool true) ∧ w' = w.alloc ob := fun ob => by
    obtain ⟨room, n, ts, free, kept, als, wls, ls, h⟩ := hA ob
    exact getInt _ o S ps room n ts free kept als wls ls x h
  go_enter Try.func12, Try.ntmps12
  go_wp2_with fail
  refine (hg _).mono ?_
  rintro e w1 ⟨rfl, rfl⟩
  clear hg
  go_wp2
  go_ret
  exact ⟨rfl, o, hA _, allocStep _ w o _⟩

theorem stepSetInt (w : World) (o : Nat → Nat) (S ps : Nat) (x y : Int) (b : Bool) (v : Int) (h : SideXInt w o S ps) :
    Calls Try.prog 12 #[.pointer (some ⟨ps, 0, none⟩), opInt 4 x y b, Value.int .i64 v] w fun e w' => e = .returned (.bool true) ∧ ∃ o', SideXInt w' o' S ps ∧ Step (SL S) w o w' o' := by
  have hA : ∀ ob, SideXInt (w.alloc ob) o S ps := fun ob => h.step (allocStep (fun _ => False) w o ob) (fun _ _ => id)
  go_enter Try.func12, Try.ntmps12
  go_wp2_with fail
  refine (setInt _ o S ps x v (hA _)).mono ?_
  rintro e w1 ⟨rfl, o1, h1, s1⟩
  have s0 := (allocStep (SL S) w o _).trans s1
  clear s1 h hA
  go_wp2
  go_ret
  exact ⟨rfl, o1, h1, s0⟩

theorem stepLenInt (w : World) (o : Nat → Nat) (S ps : Nat) (x y : Int) (b : Bool) (v : Int) (h : SideXInt w o S ps) :
    Calls Try.prog 12 #[.pointer (some ⟨ps, 0, none⟩), opInt 5 x y b, Value.int .i64 v] w fun e w' => e = .returned (.bool true) ∧ ∃ o', SideXInt w' o' S ps ∧ Step (SL S) w o w' o' := by
  have hA : ∀ ob, SideXInt (w.alloc ob) o S ps := fun ob => h.step (allocStep (fun _ => False) w o ob) (fun _ _ => id)
  obtain ⟨room, n, ts, free, kept, als, wls, ls, pa, px, vk, va, vw, h0, hAr, hR, hK, hk, hAl, hWl, hL⟩ := h
  have hp := h0.lt
  obtain ⟨c0, c1, c2, c3, c4, hf⟩ := h0.cells5
  have l1 := fun ob m => lenInt ((w.alloc ob).drewN m) o (S + 1) pa room n (valsInt ts) free ((hAr.step (allocStep (fun _ => False) w o ob) (fun _ _ => id)).drewN m)
  have l2 := fun ob m => refLen ((w.alloc ob).drewN m) o (S + 5) px room n free ((hR.step (allocStep (fun _ => False) w o ob) (fun _ _ => id)).drewN m)
  clear h0 hAr hR hK hk hAl hWl hL
  go_enter Try.func12, Try.ntmps12
  go_wp2
  go_quiet ((first | (go_at_call 27; exact Calls.quiet_of (l1 _ _)) | (go_at_call 36; exact Calls.quiet_of_same (l2 _ _))))
  clear l1 l2
  go_wp2
  go_ret
  exact ⟨ret_bool (by simp), o, (hA _).step ((Step.refl (fun _ => False) _ o).drewN _) (fun _ _ => id), (allocStep _ w o _).drewN _⟩

theorem stepElseInt (w : World) (o : Nat → Nat) (S ps : Nat) (kd x y : Int) (b : Bool) (v : Int) (hk : kd < 1 ∨ 6 < kd) (h : SideXInt w o S ps) :
    Calls Try.prog 12 #[.pointer (some ⟨ps, 0, none⟩), opInt kd x y b, Value.int .i64 v] w fun e w' => e = .returned (.bool true) ∧ ∃ o', SideXInt w' o' S ps ∧ Step (SL S) w o w' o' := by
  have hA : ∀ ob, SideXInt (w.alloc ob) o S ps := fun ob => h.step (allocStep (fun _ => False) w o ob) (fun _ _ => id)
  have k1 : (kd == 1) = false := by simp only [beq_eq_false_iff_ne, ne_eq]; omega
  have k2 : (kd == 2) = false := by simp only [beq_eq_false_iff_ne, ne_eq]; omega
  have k3 : (kd == 3) = false := by simp only [beq_eq_false_iff_ne, ne_eq]; omega
  have k4 : (kd == 4) = false := by simp only [beq_eq_false_iff_ne, ne_eq]; omega
  have k5 : (kd == 5) = false := by simp only [beq_eq_false_iff_ne, ne_eq]; omega
  have k6 : (kd == 6) = false := by simp only [beq_eq_false_iff_ne, ne_eq]; omega
  clear h hk
  go_enter Try.func12, Try.ntmps12
  go_wp2
  go_ret
  exact ⟨rfl, o, hA _, allocStep _ w o _⟩

theorem stepDropInt (w : World) (o : Nat → Nat) (S ps : Nat) (x y : Int) (b : Bool) (v : Int) (h : SideXInt w o S ps) :
    Calls Try.prog 12 #[.pointer (some ⟨ps, 0, none⟩), opInt 2 x y b, Value.int .i64 v] w fun e w' => e = .returned (.bool true) ∧ ∃ o', SideXInt w' o' S ps ∧ Step (SL S) w o w' o' := by
  have hA : ∀ ob, SideXInt (w.alloc ob) o S ps := fun ob => h.step (allocStep (fun _ => False) w o ob) (fun _ _ => id)
  obtain ⟨room, n, ts, free, kept, als, wls, ls, h⟩ := h
  obtain ⟨pa, px, vk, va, vw, h0, hAr, hR, hK, hk, hAl, hWl, hL⟩ := h
  have hp := h0.lt
  obtain ⟨c0, c1, c2, c3, c4, hf⟩ := h0.cells5
  by_cases hb : hasB n free x = true
  · obtain ⟨k, rfl, hkn, hu⟩ := hasB_true hb
    have sB := fun ob => (newStep (fun _ => False) w o (S + 99) ob).drew
    have f0 := fun ob => h0.step (sB ob) id
    have fA := fun ob => hAr.step (sB ob) (fun _ _ => id)
    have fR := fun ob => hR.step (sB ob) (fun _ _ => id)
    have fK := fun ob => hK.step (sB ob) id
    have fAl := fun ob => hAl.step (sB ob) id
    have fW := fun ob => hWl.step (sB ob) id
    have fL := fun ob => hL.step (sB ob) (fun _ _ _ => id)
    have hk2 := hk.drop k (0)
    clear h0 hAr hR hK hk hAl hWl hL hb hA
    go_enter Try.func12, Try.ntmps12
    go_wp2_with fail
    go_region_held (fun wx => wx.cell? ⟨ps, 0, none⟩ = some (.pointer (some ⟨pa, 0, none⟩)) ∧ wx.cell? ⟨ps, 1, none⟩ = some (.pointer (some ⟨px, 0, none⟩)) ∧ wx.cell? ⟨w.heap.size, 1, none⟩ = some (.int .i64 (k + 1 : Nat))) (go_keep) ((first | (go_at_call 25; refine (dropInInt _ (newLab w o (S + 99)) (S + 1) pa room n (valsInt ts) free k hkn hu (fA _)).mono ?_; rintro e w1 ⟨rfl, o1, hA1, s1⟩; obtain ⟨d0, d1, _, _, _, _⟩ := (Blk.step (f0 _) s1 (by unfold IL; omega)).cells5; have dB := box_keeps s1) | (go_at_call 33; refine (refDropIn w1 o1 (S + 5) px room n free k hkn hu (Rf.step (fR _) s1 (by unfold IL RL; omega))).mono ?_; rintro e w2 ⟨rfl, o2, hR2, s2⟩; obtain ⟨e0, e1, _, _, _, _⟩ := (Blk.step (Blk.step (f0 _) s1 (by unfold IL; omega)) s2 (by unfold RL; omega)).cells5; have eB := box_keeps2 s1 s2)))
    all_goals
      have FSt : Step (SL S) w o w2 o2 := ((((newStep (SL S) w o (S + 99) _).drew).trans (s1.mono fun x hx => SL.ofIL hx)).trans (s2.mono fun x hx => SL.ofRL hx))
      have F : SideXInt w2 o2 S ps := ⟨room, n, ts.set k (0), free ++ [k + 1], kept, als, wls, ls, pa, px, vk, va, vw, Blk.step (Blk.step (f0 _) s1 (by unfold IL; omega)) s2 (by unfold RL; omega), by have := hA1.step s2 (by unfold IL RL; omega); rwa [valsInt_set] at this, hR2, (Row.step (Row.step (fK _) s1 (by unfold IL; omega)) s2 (by unfold RL; omega)), hk2, (Row.step (Row.step (fAl _) s1 (by unfold IL; omega)) s2 (by unfold RL; omega)), (Row.step (Row.step (fW _) s1 (by unfold IL; omega)) s2 (by unfold RL; omega)), (Lists.step (Lists.step (fL _) s1 (by unfold IL; omega)) s2 (by unfold RL; omega))⟩
      clear f0 fA fR fK fAl fW fL sB s1 s2 hA1 hR2 hk2
      go_wp2
      go_ret
      exact ⟨rfl, o2, F, FSt⟩
  · have hb' : hasB n free x = false := by simpa using hb
    have fA := fun ob => hAr.step ((allocStep (fun _ => False) w o ob).drew) (fun _ _ => id)
    have fR := fun ob => hR.step ((allocStep (fun _ => False) w o ob).drew) (fun _ _ => id)
    clear h0 hAr hR hK hk hAl hWl hL hb
    go_enter Try.func12, Try.ntmps12
    go_wp2_with fail
    go_region_held (fun wx => wx.cell? ⟨ps, 0, none⟩ = some (.pointer (some ⟨pa, 0, none⟩)) ∧ wx.cell? ⟨ps, 1, none⟩ = some (.pointer (some ⟨px, 0, none⟩)) ∧ wx.cell? ⟨w.heap.size, 1, none⟩ = some (.int .i64 x)) (go_keep) ((first | (go_at_call 25; refine (dropOutInt _ o (S + 1) pa room n (valsInt ts) free x hb' (fA _)).mono ?_; rintro e w1 ⟨rfl, rfl⟩) | (go_at_call 33; refine (refDropOut _ o (S + 5) px room n free x hb' (fR _)).mono ?_; rintro e w2 ⟨rfl, rfl⟩)))
    all_goals
      clear fA fR
      go_wp2
      go_ret
      exact ⟨rfl, o, (hA _).step ((Step.refl (fun _ => False) _ o).drew) (fun _ _ => id), (allocStep _ w o _).drew⟩

end Go.Proofs.Ytbcpifklnbaooaa
