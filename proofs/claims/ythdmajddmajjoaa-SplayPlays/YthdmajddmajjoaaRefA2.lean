/- The document's own arena, more of its calls; when two lists are the same; a number as a text. -/
import Derived.Test.YthdmajddmajjoaaRefA
namespace Go.Proofs.Ythdmajddmajjoaa
open Go.ChangeShapes Go.WideShapes Go.ChangeAt Go.RowKit
set_option linter.unusedVariables false

theorem refDropOut (w : World) (o : Nat → Nat) (R q room n : Nat) (free : List Nat) (x : Int) (hb : hasB n free x = false) (h : Rf w o R q room n free) :
    Calls Try.prog 50 #[.pointer (some ⟨q, 0, none⟩), .int .i64 x] w fun e w' => e = .returned (.int .i64 21) ∧ w' = w := by
  have hc := refHas w o R q room n free x h
  rw [hb] at hc
  clear hb h
  go_enter Try.func50, Try.ntmps50
  go_wp2_with fail
  refine hc.mono ?_
  rintro e w1 ⟨rfl, rfl⟩
  go_wp2
  go_ret
  exact ⟨rfl, rfl⟩

/-- What the document's Drop leaves. -/
theorem Rf.freed {w w2 : World} {o o2 : Nat → Nat} {R q room n gi ci g cap : Nat} {vf : Value} {free : List Nat} {k : Nat}
    (h0 : Blk w o R q (.cells #[.int .i64 room, .slice (some ⟨gi, 0, none⟩) (n + 1) ci, vf] 89 (0, 0)))
    (h2 : Row w o (R + 1) 4 1 (.slice (some ⟨gi, 0, none⟩) (n + 1) ci) (n + 1) (.bool false :: usedL n free))
    (h3 : Row w o (R + 2) 3 1 vf free.length (intsL free)) (h4 : WF room n free) (hk : k < n) (hu : useB free k = true)
    (hr : Row w2 o2 (R + 2) 3 1 (.slice (some ⟨g, 0, none⟩) (free.length + 1) cap) (free.length + 1) (intsL free ++ [.int .i64 (k + 1 : Nat)]))
    (s3 : Step (fun x => x = R + 2) (w.setCell ⟨gi, k + 1, none⟩ (.bool false)) o w2 o2) :
    Rf (w2.setCell ⟨q, 2, none⟩ (.slice (some ⟨g, 0, none⟩) (free.length + 1) cap)) o2 R q room n (free ++ [k + 1]) ∧
      Step (RL R) w o (w2.setCell ⟨q, 2, none⟩ (.slice (some ⟨g, 0, none⟩) (free.length + 1) cap)) o2 := by
  have s2 := setStep (fun x => x = R + 1) w o ⟨gi, k + 1, none⟩ (.bool false) (h2.2 gi rfl)
  have k0 := (h0.step s2 (by omega)).step s3 (by omega)
  have s4 := setStep (fun x => x = R) w2 o2 ⟨q, 2, none⟩ (.slice (some ⟨g, 0, none⟩) (free.length + 1) cap) k0.2
  have k2 := h2.store (k + 1) (.bool false)
  have e := usedL_drop n free (k + 1) (by omega)
  rw [Nat.add_sub_cancel] at e
  rw [List.set_cons_succ, e] at k2
  have e2 : intsL free ++ [.int .i64 (k + 1 : Nat)] = intsL (free ++ [k + 1]) := by simp [intsL]
  rw [e2] at hr
  have e3 : free.length + 1 = (free ++ [k + 1]).length := by simp
  refine ⟨⟨_, _, k0.set 2 _, (k2.step s3 (by omega)).step s4 (by omega), ?_, h4.drop (h := k + 1) (by omega) (by omega) (by simpa using hu)⟩, ?_⟩
  · rw [← e3]; exact hr.step s4 (by omega)
  · exact ((s2.mono fun x hx => RL.mk (by omega) (by omega)).trans (s3.mono fun x hx => RL.mk (by omega) (by omega))).trans (s4.mono fun x hx => RL.mk (by omega) (by omega))

theorem refDropIn (w : World) (o : Nat → Nat) (R q room n : Nat) (free : List Nat) (k : Nat) (hk : k < n) (hu : useB free k = true) (h : Rf w o R q room n free) :
    Calls Try.prog 50 #[.pointer (some ⟨q, 0, none⟩), .int .i64 (k + 1 : Nat)] w fun e w' => e = .returned (.int .i64 0) ∧ ∃ o', Rf w' o' R q room n (free ++ [k + 1]) ∧ Step (RL R) w o w' o' := by
  have hc := refHas w o R q room n free (k + 1 : Nat) h
  have hb : hasB n free (k + 1 : Nat) = true := by simp [hasB, hu]; omega
  rw [hb] at hc
  clear hb
  obtain ⟨vu, vf, h0, h2, h3, h4⟩ := h
  have hn : n ≤ 4096 := Nat.le_trans h4.le h4.room
  have hfl := h4.free_le
  obtain ⟨gi, ci, rfl, hgi, hci, hmi, hlti, hcelli, hfri⟩ := h2.pos (by omega)
  have hx0 := h0
  obtain ⟨c0, c1, c2, hf⟩ := hx0.cells3
  clear hx0
  have hki := (hcelli (k + 1) (by omega)).trans (used1_get n free k hk)
  have hp : o q = R := h0.2
  have n2 : q ≠ gi := fun e => by rw [e] at hp; omega
  have n2' := n2.symm
  have s2 := setStep (fun x => x = R + 1) w o ⟨gi, k + 1, none⟩ (.bool false) hgi
  have k3 := h3.step s2 (by omega)
  have k0 := h0.step s2 (by omega)
  unfold maxLen at hmi
  obtain ⟨ii, hii, hzi0, hzi1, hzi2⟩ := info_parts infoInt
  have b1 : free.length + 1 ≤ maxLen := by unfold maxLen; omega
  clear hcelli s2 hp hgi
  go_enter Try.func50, Try.ntmps50
  go_wp2_with fail
  refine hc.mono ?_
  rintro e w1 ⟨rfl, rfl⟩
  clear hc
  go_wp2_with (first | (at_builtin; refine wpList_append_lab rfl (.tmp 19) (.tmp 21) 60 rfl 3 ii (.int .i64 0) 1 8 Try.underlying60 hii hzi0 hzi1 hzi2 rfl (by decide) o (R + 2) vf free.length (intsL free) rfl (k3.step (allocStep (fun _ => False) _ o _) (by simp)) ⟨w1.heap.size, 0, none⟩ 1 1 [.int .i64 ((k : Int) + 1)] rfl rfl (new_one_at (by simp) _ _) (by intro u hu; simp at hu; subst hu; rfl) (by decide) b1 (by omega) ?_) | go_in)
  intro g cap w2 o2 hr hs
  have s3 := (allocStep (fun x => x = R + 2) _ o _).trans hs
  have R1 := Rf.freed h0 h2 h3 h4 hk hu hr s3
  have m0 := k0.step s3 (by omega)
  obtain ⟨e0, e1, e2, hfe⟩ := Blk.cells3 m0
  clear h0 h2 h3 h4 hr hs m0 k0 k3 s3
  go_wp2
  go_ret
  exact ⟨rfl, o2, R1.1, R1.2⟩

/-- Two lists of the same numbers are the same. -/
theorem same_yes (w : World) (o o2 : Nat → Nat) (La Lb n : Nat) (l : List Nat) (va vb : Value) (hl : l.length = n) (hn : n ≤ 5000) (ha : Row w o La 3 1 va n (intsL l)) (hb : Row w o2 Lb 3 1 vb n (intsL l)) :
    Calls Try.prog 36 #[va, vb] w fun e w' => e = .returned (.bool true) ∧ ∃ m, w' = w.drewN m := by
  obtain ⟨aa, ca, rfl⟩ := ha.form
  obtain ⟨ab, cb, rfl⟩ := hb.form
  have HL : Hid (l.length = n) := hl
  clear hl
  go_enter Try.func36, Try.ntmps36
  go_wp2
  go_loopw [5] (fun i wr => ∃ k : Nat, k ≤ n ∧ i = .int .i64 k ∧ ∃ m, wr = w.drewN m) (fun i _ => n - (intOf i).toNat)
  case atStart => exact ⟨0, by omega, by go_num, 0, rfl⟩
  case round =>
    obtain ⟨k, hk, rfl, m, rfl⟩ := hrel
    by_cases hlt : k < n
    · obtain ⟨ga, ca', hv, _, hca, hma, _, hcla, _⟩ := ha.pos (by omega)
      simp only [Value.slice.injEq, true_and] at hv
      obtain ⟨rfl, rfl⟩ := hv
      obtain ⟨gb, cb', hv, _, hcb, hmb, _, hclb, _⟩ := hb.pos (by omega)
      simp only [Value.slice.injEq, true_and] at hv
      obtain ⟨rfl, rfl⟩ := hv
      have hkl : k < l.length := by rw [HL.out]; exact hlt
      have cA := (hcla k (by omega)).trans (intsL_get l k hkl)
      have cB := (hclb k (by omega)).trans (intsL_get l k hkl)
      unfold maxLen at hma hmb
      clear hcla hclb
      go_wp2
      go_quiet (fail)
      go_wp2
      go_roundw
      case rel => (try ((repeat apply Exists.intro); refine ⟨?_, rfl⟩)); exact ⟨k + 1, by omega, by go_num, _, rfl⟩
      case measure => simp [intOf]; omega
    · obtain rfl : k = n := by omega
      go_wp2
      go_ret
      exact ⟨rfl, _, rfl⟩
end Go.Proofs.Ythdmajddmajjoaa
