/- The document's own arena (handles alone): what it is in memory, and what each of its calls answers and leaves. -/
import Derived.Test.YtbcpifklnbaooaaArBase
namespace Go.Proofs.Ytbcpifklnbaooaa
open Go.ChangeShapes Go.WideShapes Go.ChangeAt Go.RowKit
set_option linter.unusedVariables false

/-- The document's arena in memory: three labels from R on. -/
def Rf (w : World) (o : Nat → Nat) (R q room n : Nat) (free : List Nat) : Prop :=
  ∃ vu vf, Blk w o R q (.cells #[.int .i64 room, vu, vf] 74 (0, 0)) ∧ Row w o (R + 1) 4 1 vu (n + 1) (.bool false :: usedL n free) ∧ Row w o (R + 2) 3 1 vf free.length (intsL free) ∧ WF room n free
def RL (R : Nat) : Nat → Prop := fun k => R ≤ k ∧ k < R + 3
theorem RL.mk {L k : Nat} (h1 : L ≤ k) (h2 : k < L + 3) : RL L k := ⟨h1, h2⟩
theorem Rf.step {I : Nat → Prop} {w w' : World} {o o' : Nat → Nat} {R q room n : Nat} {free : List Nat} (h : Rf w o R q room n free) (s : Step I w o w' o') (hi : ∀ k, RL R k → ¬ I k) : Rf w' o' R q room n free := by
  obtain ⟨vu, vf, h0, h1, h2, h4⟩ := h
  exact ⟨vu, vf, h0.step s (hi _ ⟨by omega, by omega⟩), h1.step s (hi _ ⟨by omega, by omega⟩), h2.step s (hi _ ⟨by omega, by omega⟩), h4⟩
theorem Rf.wf {w : World} {o : Nat → Nat} {R q room n : Nat} {free : List Nat} (h : Rf w o R q room n free) : WF room n free := by
  obtain ⟨vu, vf, h0, h1, h2, h4⟩ := h
  exact h4
theorem Rf.drewN {w : World} {o : Nat → Nat} {R q room n : Nat} {free : List Nat} (h : Rf w o R q room n free) (m : Nat) : Rf (w.drewN m) o R q room n free := h
theorem Blk.cells3 {w : World} {o : Nat → Nat} {i b : Nat} {a0 a1 a2 : Value} {t : TypeId} (h : Blk w o i b (.cells #[a0, a1, a2] t (0, 0))) :
    w.cell? ⟨b, 0, none⟩ = some a0 ∧ w.cell? ⟨b, 1, none⟩ = some a1 ∧ w.cell? ⟨b, 2, none⟩ = some a2 ∧ ∀ j, w.frozen? ⟨b, j, none⟩ = false := by
  refine ⟨?_, ?_, ?_, fun j => frozen_of_row w b j _ t h.1⟩ <;> simp [cell_of_row w b _ _ t (0, 0) h.1]
theorem used1_get (n : Nat) (free : List Nat) (j : Nat) (h : j < n) : (Value.bool false :: usedL n free)[j + 1]? = some (.bool (useB free j)) := by rw [List.getElem?_cons_succ]; exact usedL_get n free j h

theorem refHas (w : World) (o : Nat → Nat) (R q room n : Nat) (free : List Nat) (x : Int) (h : Rf w o R q room n free) :
    Calls Try.prog 51 #[.pointer (some ⟨q, 0, none⟩), .int .i64 x] w fun e w' => e = .returned (.bool (hasB n free x)) ∧ w' = w := by
  obtain ⟨vu, vf, h0, h2, h3, h4⟩ := h
  obtain ⟨c0, c1, c2, hf⟩ := h0.cells3
  have hn : n ≤ 4096 := Nat.le_trans h4.le h4.room
  obtain ⟨g, cap, rfl, hg, hc, hm, hlt, hcell, hfr⟩ := h2.pos (by omega)
  by_cases hx : 1 ≤ x ∧ x ≤ n
  · obtain ⟨hx1, hx2⟩ := hx
    obtain ⟨k, rfl⟩ : ∃ k : Nat, x = k + 1 := ⟨x.toNat - 1, by omega⟩
    have hkn : k < n := by omega
    have hk := (hcell (k + 1) (by omega)).trans (used1_get n free k hkn)
    have e : hasB n free (k + 1) = useB free k := by simp [hasB, hx2]; omega
    rw [e]
    clear h0 h2 h3 h4 e hcell
    go_enter Try.func51, Try.ntmps51
    go_wp2
    go_ret
    exact ⟨rfl, rfl⟩
  · have e : hasB n free x = false := by
      simp only [hasB, Bool.and_eq_false_iff, decide_eq_false_iff_not]
      omega
    rw [e]
    clear h0 h2 h3 h4 e hcell
    by_cases hx1 : 1 ≤ x
    · have hx2 : ¬ x < (n : Int) + 1 := by omega
      clear hx
      go_enter Try.func51, Try.ntmps51
      go_wp2
      go_ret
      exact ⟨rfl, rfl⟩
    · clear hx
      go_enter Try.func51, Try.ntmps51
      go_wp2
      go_ret
      exact ⟨rfl, rfl⟩

theorem refLen (w : World) (o : Nat → Nat) (R q room n : Nat) (free : List Nat) (h : Rf w o R q room n free) :
    Calls Try.prog 36 #[.pointer (some ⟨q, 0, none⟩)] w fun e w' => e = .returned (.int .i64 (n - free.length : Nat)) ∧ w' = w := by
  obtain ⟨vu, vf, h0, h2, h3, h4⟩ := h
  obtain ⟨c0, c1, c2, hf⟩ := h0.cells3
  have hn : n ≤ 4096 := Nat.le_trans h4.le h4.room
  obtain ⟨g, cap, rfl, hg, hc, hm, hlt, hcell, hfr⟩ := h2.pos (by omega)
  unfold maxLen at hm
  have hck : ∀ k, k < n → w.cell? ⟨g, k + 1, none⟩ = some (.bool (useB free k)) := fun k hk => (hcell (k + 1) (by omega)).trans (used1_get n free k hk)
  rw [← allL_count h4]
  clear h0 h2 h3 h4 hcell
  go_enter Try.func36, Try.ntmps36
  go_wp2
  go_loop [3, 4] (fun c i => ∃ k : Nat, k ≤ n ∧ i = .int .i64 ((k : Int) + 1) ∧ c = .int .i64 ((allL k free).length : Nat)) (fun _ i => n + 1 - (intOf i).toNat)
  case atStart => exact ⟨0, by omega, by go_num, rfl⟩
  case round =>
    obtain ⟨k, hk, rfl, rfl⟩ := hrel
    have hal := allL_le k free
    by_cases hlt2 : k < n
    · have ck := hck k hlt2
      have es := allL_succ k free
      by_cases hu : useB free k = true
      · rw [if_pos hu] at es
        have HE : Hid ((allL (k + 1) free).length = (allL k free).length + 1) := by rw [es]; simp [Hid]
        clear es hck
        go_wp2
        go_round
        case rel => exact ⟨k + 1, by omega, by go_num, by rw [HE.out]; go_num⟩
        case measure => simp [intOf]; omega
      · have hu' : useB free k = false := by simpa using hu
        rw [if_neg hu] at es
        have HE : Hid ((allL (k + 1) free).length = (allL k free).length) := by rw [es]; rfl
        clear es hck hu
        go_wp2
        go_round
        case rel => exact ⟨k + 1, by omega, by go_num, by rw [HE.out]⟩
        case measure => simp [intOf]; omega
    · obtain rfl : k = n := by omega
      clear hck
      go_wp2
      go_ret
      exact ⟨rfl, rfl⟩

theorem Rf.new {w : World} {o : Nat → Nat} {R room : Nat} (hr : room ≤ 4096) :
    Rf ((w.alloc (.cells #[.bool false] 4)).alloc (.cells #[.int .i64 room, .slice (some ⟨w.heap.size, 0, none⟩) 1 1, .slice none 0 0] 74)) (newLab (w.alloc (.cells #[.bool false] 4)) (newLab w o (R + 1)) R) R (w.heap.size + 1) room 0 [] ∧
    Step (fun _ => False) w o ((w.alloc (.cells #[.bool false] 4)).alloc (.cells #[.int .i64 room, .slice (some ⟨w.heap.size, 0, none⟩) 1 1, .slice none 0 0] 74)) (newLab (w.alloc (.cells #[.bool false] 4)) (newLab w o (R + 1)) R) := by
  have s1 := newStep (fun _ => False) w o (R + 1) (.cells #[.bool false] 4)
  have s2 := newStep (fun _ => False) (w.alloc (.cells #[.bool false] 4)) (newLab w o (R + 1)) R (.cells #[.int .i64 room, .slice (some ⟨w.heap.size, 0, none⟩) 1 1, .slice none 0 0] 74)
  have hsz : (w.alloc (.cells #[.bool false] 4)).heap.size = w.heap.size + 1 := by simp
  have r1 : Row (w.alloc (.cells #[.bool false] 4)) (newLab w o (R + 1)) (R + 1) 4 1 (.slice (some ⟨w.heap.size, 0, none⟩) 1 1) 1 [.bool false] :=
    ⟨World.ownsRow_lit w #[.bool false] 1 (Nat.zero_le _) (by unfold maxLen; omega) (by simp), fun k hk => by simp [Value.ownBlock] at hk; subst hk; exact newLab_new (Nat.le_refl _)⟩
  refine ⟨⟨_, _, ⟨?_, newLab_new (by omega)⟩, r1.step s2 id, Row.nil _ _ _ _ _, WF.new hr⟩, s1.trans s2⟩
  have := heap_alloc_new (w.alloc (.cells #[.bool false] 4)) (.cells #[.int .i64 room, .slice (some ⟨w.heap.size, 0, none⟩) 1 1, .slice none 0 0] 74)
  rwa [hsz] at this

theorem refNewBad (w : World) (x : Int) (hx : x < 0 ∨ 4096 < x) :
    Calls Try.prog 9 #[.int .i64 x] w fun e w' => e = .returned (.tuple #[.pointer none, .int .i64 1]) ∧ w' = w := by
  rcases hx with hx | hx
  · go_enter Try.func9, Try.ntmps9
    go_wp2
    go_ret2
    exact ⟨rfl, rfl⟩
  · have hx0 : ¬ x < 0 := by omega
    go_enter Try.func9, Try.ntmps9
    go_wp2
    go_ret2
    exact ⟨rfl, rfl⟩

theorem refNew (w : World) (o : Nat → Nat) (R r : Nat) (hr : r ≤ 4096) :
    Calls Try.prog 9 #[.int .i64 r] w fun e w' => ∃ q, e = .returned (.tuple #[.pointer (some ⟨q, 0, none⟩), .int .i64 0]) ∧ ∃ o', Rf w' o' R q r 0 [] ∧ Step (fun _ => False) w o w' o' := by
  have hx0 : ¬ (r : Int) < 0 := by omega
  have hx1 : ¬ (4096 : Int) < (r : Int) := by omega
  go_enter Try.func9, Try.ntmps9
  go_wp2
  go_ret2
  have R1 := @Rf.new w o R r hr
  exact ⟨_, rfl, _, R1.1, R1.2⟩

/-- What the document's Put leaves, where a handle was free. -/
theorem Rf.popped {w : World} {o : Nat → Nat} {R q room n gi ci gf cf : Nat} {fs : List Nat} {k : Nat}
    (h0 : Blk w o R q (.cells #[.int .i64 room, .slice (some ⟨gi, 0, none⟩) (n + 1) ci, .slice (some ⟨gf, 0, none⟩) (fs.length + 1) cf] 74 (0, 0)))
    (h2 : Row w o (R + 1) 4 1 (.slice (some ⟨gi, 0, none⟩) (n + 1) ci) (n + 1) (.bool false :: usedL n (fs ++ [k + 1])))
    (h3 : Row w o (R + 2) 3 1 (.slice (some ⟨gf, 0, none⟩) (fs.length + 1) cf) (fs.length + 1) (intsL (fs ++ [k + 1]))) (h4 : WF room n (fs ++ [k + 1])) :
    Rf ((w.setCell ⟨q, 2, none⟩ (.slice (some ⟨gf, 0, none⟩) fs.length cf)).setCell ⟨gi, k + 1, none⟩ (.bool true)) o R q room n fs ∧
      Step (RL R) w o ((w.setCell ⟨q, 2, none⟩ (.slice (some ⟨gf, 0, none⟩) fs.length cf)).setCell ⟨gi, k + 1, none⟩ (.bool true)) o := by
  have s1 := setStep (fun x => x = R) w o ⟨q, 2, none⟩ (.slice (some ⟨gf, 0, none⟩) fs.length cf) h0.2
  have g0 := h0.set 2 (.slice (some ⟨gf, 0, none⟩) fs.length cf)
  have g2 := h2.step s1 (by omega)
  have g3 := (h3.cut fs.length (by omega)).step s1 (by omega)
  have s2 := setStep (fun x => x = R + 1) (w.setCell ⟨q, 2, none⟩ (.slice (some ⟨gf, 0, none⟩) fs.length cf)) o ⟨gi, k + 1, none⟩ (.bool true) (h2.2 gi rfl)
  refine ⟨⟨_, _, g0.step s2 (by omega), ?_, ?_, h4.pop⟩, (s1.mono fun x hx => RL.mk (by omega) (by omega)).trans (s2.mono fun x hx => RL.mk (by omega) (by omega))⟩
  · have := g2.store (k + 1) (.bool true)
    have e := usedL_pop n fs (k + 1) h4.nodup (by omega)
    rw [Nat.add_sub_cancel] at e
    rw [List.set_cons_succ, e] at this
    exact this
  · have e : (intsL (fs ++ [k + 1])).take (fs.length * 1) = intsL fs := by simp [intsL]
    rw [e] at g3
    exact g3.step s2 (by omega)

theorem refPutFull (w : World) (o : Nat → Nat) (R q room n : Nat) (free : List Nat) (hfull : n - free.length = room) (h : Rf w o R q room n free) :
    Calls Try.prog 50 #[.pointer (some ⟨q, 0, none⟩)] w fun e w' => e = .returned (.tuple #[.int .i64 0, .int .i64 20]) ∧ ∃ m, w' = w.drewN m := by
  have hx := h
  obtain ⟨vu, vf, h0, h2, h3, h4⟩ := hx
  obtain ⟨c0, c1, c2, hf⟩ := h0.cells3
  have hn : n ≤ 4096 := Nat.le_trans h4.le h4.room
  clear h0 h2 h3 h4
  have hlen := fun wx hh => refLen wx o R q room n free hh
  rw [hfull] at hlen
  go_enter Try.func50, Try.ntmps50
  go_wp2
  go_quiet ((go_at_call 36; exact Calls.quiet_of_same (hlen _ h)))
  go_wp2
  go_ret2
  exact ⟨rfl, _, rfl⟩

theorem refPutPop (w : World) (o : Nat → Nat) (R q room n : Nat) (fs : List Nat) (k : Nat) (h : Rf w o R q room n (fs ++ [k + 1])) :
    Calls Try.prog 50 #[.pointer (some ⟨q, 0, none⟩)] w fun e w' => e = .returned (.tuple #[.int .i64 (k + 1 : Nat), .int .i64 0]) ∧ Rf w' o R q room n fs ∧ Step (RL R) w o w' o := by
  have hx := h
  obtain ⟨vu, vf, h0, h2, h3, h4⟩ := hx
  have hl : (fs ++ [k + 1]).length = fs.length + 1 := by simp
  rw [hl] at h3
  have hla := h4.last
  have hle := h4.free_le
  have hnr := h4.le
  have hrm := h4.room
  have hne : ¬ ((room : Int) ≤ ((n - (fs ++ [k + 1]).length : Nat) : Int)) := by rw [hl] at hle ⊢; omega
  rw [hl] at hle
  have hn : n ≤ 4096 := Nat.le_trans h4.le h4.room
  obtain ⟨gi, ci, rfl, hgi, hci, hmi, hlti, hcelli, hfri⟩ := h2.pos (by omega)
  obtain ⟨gf, cf, rfl, hgf, hcf, hmf, hltf, hcellf, hfrf⟩ := h3.pos (by omega)
  have HP := Rf.popped h0 h2 h3 h4
  obtain ⟨c0, c1, c2, hf⟩ := h0.cells3
  have hk := (hcelli (k + 1) (by omega)).trans (used1_get n _ k (by omega))
  have hfk : w.cell? ⟨gf, fs.length, none⟩ = some (.int .i64 (k + 1 : Nat)) := (hcellf fs.length (by omega)).trans (by simp [intsL])
  have hpi : q ≠ gi := fun e => by have h5 := h0.2; rw [e] at h5; omega
  have hip : gi ≠ q := hpi.symm
  have hkn : k < n := by omega
  unfold maxLen at hmf hmi
  obtain ⟨y, hy⟩ : ∃ y, y = n - (fs ++ [k + 1]).length := ⟨_, rfl⟩
  have hlen := fun wx hh => refLen wx o R q room n (fs ++ [k + 1]) hh
  rw [← hy] at hlen hne
  clear h0 h2 h3 h4 hcelli hcellf hla hl hy
  go_enter Try.func50, Try.ntmps50
  go_wp2
  go_quiet ((go_at_call 36; exact Calls.quiet_of_same (hlen _ h)))
  clear hlen h
  go_wp2
  go_ret2
  exact ⟨rfl, HP.1, HP.2.drewN _⟩

/-- What the document's Put leaves, where none was free. -/
theorem Rf.pushed {w w2 : World} {o o2 : Nat → Nat} {R q room n g2 cap2 cf : Nat} {af : Option Addr} {vi : Value}
    (h0 : Blk w o R q (.cells #[.int .i64 room, vi, .slice af 0 cf] 74 (0, 0))) (h3 : Row w o (R + 2) 3 1 (.slice af 0 cf) 0 (intsL [])) (h4 : WF room n []) (hroom : n < room)
    (hr2 : Row w2 o2 (R + 1) 4 1 (.slice (some ⟨g2, 0, none⟩) (n + 1 + 1) cap2) (n + 1 + 1) ((.bool false :: usedL n []) ++ [.bool true])) (sC : Step (fun k => k = R + 1) w o w2 o2) :
    Rf (w2.setCell ⟨q, 1, none⟩ (.slice (some ⟨g2, 0, none⟩) (n + 1 + 1) cap2)) o2 R q room (n + 1) [] ∧
      Step (RL R) w o (w2.setCell ⟨q, 1, none⟩ (.slice (some ⟨g2, 0, none⟩) (n + 1 + 1) cap2)) o2 := by
  have n0 := h0.step sC (by omega)
  have sD := setStep (fun x => x = R) w2 o2 ⟨q, 1, none⟩ (.slice (some ⟨g2, 0, none⟩) (n + 1 + 1) cap2) n0.2
  rw [List.cons_append, usedL_push] at hr2
  refine ⟨⟨_, _, n0.set 1 _, hr2.step sD (by omega), (h3.step sC (by omega)).step sD (by omega), h4.push hroom⟩, ?_⟩
  exact (sC.mono fun x hx => RL.mk (by omega) (by omega)).trans (sD.mono fun x hx => RL.mk (by omega) (by omega))

theorem refPutPush (w : World) (o : Nat → Nat) (R q room n : Nat) (hroom : n < room) (h : Rf w o R q room n []) :
    Calls Try.prog 50 #[.pointer (some ⟨q, 0, none⟩)] w fun e w' => e = .returned (.tuple #[.int .i64 (n + 1 : Nat), .int .i64 0]) ∧ ∃ o', Rf w' o' R q room (n + 1) [] ∧ Step (RL R) w o w' o' := by
  have hx := h
  obtain ⟨vu, vf, h0, h2, h3, h4⟩ := hx
  have hn : n ≤ 4096 := Nat.le_trans h4.le h4.room
  have hrm := h4.room
  obtain ⟨gi, ci, rfl, hgi, hci, hmi, hlti, hcelli, hfri⟩ := h2.pos (by omega)
  obtain ⟨af, cf, rfl⟩ := h3.form
  have hx0 := h0
  obtain ⟨c0, c1, c2, hf⟩ := hx0.cells3
  clear hx0
  have hne : ¬ ((room : Int) ≤ (n : Int)) := by omega
  have hlen := fun wx hh => refLen wx o R q room n [] hh
  obtain ⟨ib, hib, hzb0, hzb1, hzb2⟩ := info_parts infoBool
  unfold maxLen at hmi
  have b1 : n + 1 + 1 ≤ maxLen := by unfold maxLen; omega
  clear hcelli
  go_enter Try.func50, Try.ntmps50
  go_wp2
  go_quiet ((go_at_call 36; exact Calls.quiet_of_same (hlen _ h)))
  clear hlen h
  go_wp2_with (first | (at_builtin; refine wpList_append_lab rfl (.tmp 49) (.tmp 50) 68 rfl 4 ib (.bool false) 1 1 Try.underlying68 hib hzb0 hzb1 hzb2 rfl (by decide) o (R + 1) _ (n + 1) (.bool false :: usedL n []) rfl (h2.step ((Step.refl (fun _ => False) w o).alloc _ |>.drewN _) (by simp)) ⟨w.heap.size, 0, none⟩ 1 1 [.bool true] rfl rfl (new_one_at (by simp) _ _) (by intro u hu; simp at hu; subst hu; rfl) (by decide) b1 (by omega) ?_) | go_in)
  intro g2 cap2 w2 o2 hr2 hs2
  have sC := (((Step.refl (fun k => k = R + 1) w o).drewN _).alloc _).trans hs2
  have n0 := h0.step sC (by omega)
  obtain ⟨e0, e1, e2, hfe⟩ := Blk.cells3 n0
  have R1 := Rf.pushed h0 h3 h4 hroom hr2 sC
  clear h0 h2 h3 h4 hr2 hs2 n0 sC
  go_wp2
  go_ret2
  exact ⟨rfl, o2, R1.1, R1.2⟩

end Go.Proofs.Ytbcpifklnbaooaa
