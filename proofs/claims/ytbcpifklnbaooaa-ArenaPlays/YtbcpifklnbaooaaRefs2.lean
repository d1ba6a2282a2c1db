/- The document's own arena, more of its calls; when two lists are the same; a number as a text. -/
import Derived.Test.YtbcpifklnbaooaaRefs
namespace Go.Proofs.Ytbcpifklnbaooaa
open Go.ChangeShapes Go.WideShapes Go.ChangeAt Go.RowKit
set_option linter.unusedVariables false

theorem refDropOut (w : World) (o : Nat → Nat) (R q room n : Nat) (free : List Nat) (x : Int) (hb : hasB n free x = false) (h : Rf w o R q room n free) :
    Calls Try.prog 33 #[.pointer (some ⟨q, 0, none⟩), .int .i64 x] w fun e w' => e = .returned (.int .i64 21) ∧ w' = w := by
  have hc := refHas w o R q room n free x h
  rw [hb] at hc
  clear hb h
  go_enter Try.func33, Try.ntmps33
  go_wp2_with fail
  refine hc.mono ?_
  rintro e w1 ⟨rfl, rfl⟩
  go_wp2
  go_ret
  exact ⟨rfl, rfl⟩

/-- What the document's Drop leaves. -/
theorem Rf.freed {w w2 : World} {o o2 : Nat → Nat} {R q room n gi ci g cap : Nat} {vf : Value} {free : List Nat} {k : Nat}
    (h0 : Blk w o R q (.cells #[.int .i64 room, .slice (some ⟨gi, 0, none⟩) (n + 1) ci, vf] 74 (0, 0)))
    (h2 : Row w o (R + 1) 4 1 (.slice (some ⟨gi, 0, none⟩) (n + 1) ci) (n + 1) (.bool false :: usedL n free))
    (h3 : Row w o (R + 2) 3 1 vf free.length (intsL free)) (h4 : WF room n free) (hk : k < n) (hu : useB free k = true)
    (hr : Row w2 o2 (R + 2) 3 1 (.slice (some ⟨g, 0, none⟩) (free.length + 1) cap) (free.length + 1) (intsL free ++ [.int .i64 (k + 1 : Nat)]))
    (s3 : Step (fun x => x = R + 2) (w.setCell ⟨gi, k + 1, none⟩ (.bool false)) o w2 o2) :
    Rf (w2.setCell ⟨q, 2, none⟩ (.slice (some ⟨g, 0, none⟩) (free.length + 1) cap)) o2 R q room n (free ++ [k + 1]) ∧
      Step (RL R) w o (w2.setCell ⟨q, 2, none⟩ (.slice (some ⟨g, 0, none⟩) (free.length + 1) cap)) o2 := by
  have s2 := setStep (fun x => x = R + 1) w o ⟨gi, k + 1, none⟩ (.bool false) (h2.2 gi rfl)
  have k0 := (h0.step s2 (by omega)).step s3 (by omega)
  have s4 := setStep (fun x => x = R) w2 o2 ⟨q, 2, none⟩ (.slice (some ⟨g, 0, none⟩) (free.length + 1) cap) k0.2
  have k2 := h2.store (k + 1) (.bool false)
  have e := usedL_drop n free (k + 1) (by omega)
  rw [Nat.add_sub_cancel] at e
  rw [List.set_cons_succ, e] at k2
  have e2 : intsL free ++ [.int .i64 (k + 1 : Nat)] = intsL (free ++ [k + 1]) := by simp [intsL]
  rw [e2] at hr
  have e3 : free.length + 1 = (free ++ [k + 1]).length := by simp
  refine ⟨⟨_, _, k0.set 2 _, (k2.step s3 (by omega)).step s4 (by omega), ?_, h4.drop (h := k + 1) (by omega) (by omega) (by simpa using hu)⟩, ?_⟩
  · rw [← e3]; exact hr.step s4 (by omega)
  · exact ((s2.mono fun x hx => RL.mk (by omega) (by omega)).trans (s3.mono fun x hx => RL.mk (by omega) (by omega))).trans (s4.mono fun x hx => RL.mk (by omega) (by omega))

theorem refDropIn (w : World) (o : Nat → Nat) (R q room n : Nat) (free : List Nat) (k : Nat) (hk : k < n) (hu : useB free k = true) (h : Rf w o R q room n free) :
    Calls Try.prog 33 #[.pointer (some ⟨q, 0, none⟩), .int .i64 (k + 1 : Nat)] w fun e w' => e = .returned (.int .i64 0) ∧ ∃ o', Rf w' o' R q room n (free ++ [k + 1]) ∧ Step (RL R) w o w' o' := by
  have hc := refHas w o R q room n free (k + 1 : Nat) h
  have hb : hasB n free (k + 1 : Nat) = true := by simp [hasB, hu]; omega
  rw [hb] at hc
  clear hb
  obtain ⟨vu, vf, h0, h2, h3, h4⟩ := h
  have hn : n ≤ 4096 := Nat.le_trans h4.le h4.room
  have hfl := h4.free_le
  obtain ⟨gi, ci, rfl, hgi, hci, hmi, hlti, hcelli, hfri⟩ := h2.pos (by omega)
  have hx0 := h0
  obtain ⟨c0, c1, c2, hf⟩ := hx0.cells3
  clear hx0
  have hki := (hcelli (k + 1) (by omega)).trans (used1_get n free k hk)
  have hp : o q = R := h0.2
  have n2 : q ≠ gi := fun e => by rw [e] at hp; omega
  have n2' := n2.symm
  have s2 := setStep (fun x => x = R + 1) w o ⟨gi, k + 1, none⟩ (.bool false) hgi
  have k3 := h3.step s2 (by omega)
  have k0 := h0.step s2 (by omega)
  unfold maxLen at hmi
  obtain ⟨ii, hii, hzi0, hzi1, hzi2⟩ := info_parts infoInt
  have b1 : free.length + 1 ≤ maxLen := by unfold maxLen; omega
  clear hcelli s2 hp hgi
  go_enter Try.func33, Try.ntmps33
  go_wp2_with fail
  refine hc.mono ?_
  rintro e w1 ⟨rfl, rfl⟩
  clear hc
  go_wp2_with (first | (at_builtin; refine wpList_append_lab rfl (.tmp 19) (.tmp 21) 35 rfl 3 ii (.int .i64 0) 1 8 Try.underlying35 hii hzi0 hzi1 hzi2 rfl (by decide) o (R + 2) vf free.length (intsL free) rfl (k3.step (allocStep (fun _ => False) _ o _) (by simp)) ⟨w1.heap.size, 0, none⟩ 1 1 [.int .i64 ((k : Int) + 1)] rfl rfl (new_one_at (by simp) _ _) (by intro u hu; simp at hu; subst hu; rfl) (by decide) b1 (by omega) ?_) | go_in)
  intro g cap w2 o2 hr hs
  have s3 := (allocStep (fun x => x = R + 2) _ o _).trans hs
  have R1 := Rf.freed h0 h2 h3 h4 hk hu hr s3
  have m0 := k0.step s3 (by omega)
  obtain ⟨e0, e1, e2, hfe⟩ := Blk.cells3 m0
  clear h0 h2 h3 h4 hr hs m0 k0 k3 s3
  go_wp2
  go_ret
  exact ⟨rfl, o2, R1.1, R1.2⟩

set_option maxRecDepth 100000 in
theorem refAll (w : World) (o : Nat → Nat) (R q room n lb : Nat) (free : List Nat) (hlb : ¬ RL R lb) (h : Rf w o R q room n free) :
    Calls Try.prog 38 #[.pointer (some ⟨q, 0, none⟩)] w fun e w' => ∃ ao cap, e = .returned (.slice ao (allL n free).length cap) ∧ ∃ o', Row w' o' lb 3 1 (.slice ao (allL n free).length cap) (allL n free).length (intsL (allL n free)) ∧ Step (fun k => k = lb) w o w' o' := by
  obtain ⟨vu, vf, h0, h2, h3, h4⟩ := h
  have hn : n ≤ 4096 := Nat.le_trans h4.le h4.room
  obtain ⟨gi, ci, rfl, hgi, hci, hmi, hlti, hcelli, hfri⟩ := h2.pos (by omega)
  obtain ⟨ii, hii, hzi0, hzi1, hzi2⟩ := info_parts infoInt
  unfold maxLen at hmi
  clear hcelli hfri
  have hR0 : ¬ lb = R := fun e => hlb (by rw [e]; exact RL.mk (by omega) (by omega))
  have hR1 : ¬ lb = R + 1 := fun e => hlb (by rw [e]; exact RL.mk (by omega) (by omega))
  go_enter Try.func38, Try.ntmps38
  go_wp2
  go_loopw [3, 4] (fun v i wr => ∃ k : Nat, k ≤ n ∧ i = .int .i64 ((k : Int) + 1) ∧ ∃ ao cap o', v = .slice ao (allL k free).length cap ∧ Row wr o' lb 3 1 (.slice ao (allL k free).length cap) (allL k free).length (intsL (allL k free)) ∧ Step (fun k => k = lb) w o wr o') (fun _ i _ => n + 1 - (intOf i).toNat)
  case atStart => exact ⟨0, Nat.zero_le _, by go_num, none, 0, o, rfl, Row.nil _ _ _ _ _, Step.refl _ _ _⟩
  case round =>
    obtain ⟨k, hk, rfl, ao, cap, o3, rfl, r3, s3⟩ := hrel
    have hal := allL_le k free
    obtain ⟨d0, d1, d2, hfd⟩ := (h0.step s3 (fun e => hR0 e.symm)).cells3
    by_cases hlt : k < n
    · have hx2 := h2.step s3 (fun e => hR1 e.symm)
      obtain ⟨gi', ci', hv, _, _, _, _, hcelli, _⟩ := hx2.pos (by omega)
      simp only [Value.slice.injEq, Option.some.injEq, Addr.mk.injEq, and_true, true_and] at hv
      obtain ⟨rfl, rfl⟩ := hv
      have hki := (hcelli (k + 1) (by omega)).trans (used1_get n free k hlt)
      clear hcelli hx2
      by_cases hu : useB free k = true
      · have es : allL (k + 1) free = allL k free ++ [k + 1] := by rw [allL_succ, if_pos hu]
        have HE : Hid (allL (k + 1) free = allL k free ++ [k + 1]) := es
        clear es
        obtain ⟨y, hq⟩ : ∃ y, y = (allL k free).length := ⟨_, rfl⟩
        rw [← hq] at r3 hal
        have HQ : Hid (y = (allL k free).length) := hq
        rw [← hq]
        clear hq
        have b1 : y + 1 ≤ maxLen := by unfold maxLen; omega
        go_wp2_with (first | (at_builtin; refine wpList_append_lab rfl (.tmp 21) (.tmp 23) 35 rfl 3 ii (.int .i64 0) 1 8 Try.underlying35 hii hzi0 hzi1 hzi2 rfl (by decide) o3 lb _ y (intsL (allL k free)) rfl (r3.step (allocStep (fun _ => False) _ o3 _) (by simp)) ⟨wr.heap.size, 0, none⟩ 1 1 [.int .i64 ((k : Int) + 1)] rfl rfl (new_one_at (by simp) _ _) (by intro u hu; simp at hu; subst hu; rfl) (by decide) b1 (by omega) ?_) | go_in)
        intro g4 cap4 w4 o4 hr hs
        have s4 := s3.trans ((allocStep (fun x => x = lb) wr o3 _).trans hs)
        have e2 : intsL (allL k free) ++ [.int .i64 ((k : Int) + 1)] = intsL (allL (k + 1) free) := by rw [HE.out]; simp [intsL]
        have e3 : y + 1 = (allL (k + 1) free).length := by rw [HE.out, HQ.out]; simp
        rw [e2] at hr
        have HE3 : Hid (y + 1 = (allL (k + 1) free).length) := e3
        clear e2 e3 hs r3 s3
        go_wp2
        go_roundw
        case rel => (try ((repeat apply Exists.intro); refine ⟨?_, rfl⟩)); exact ⟨k + 1, by omega, by go_num, some ⟨g4, 0, none⟩, cap4, o4, by rw [← HE3.out], by rw [← HE3.out]; exact hr, s4⟩
        case measure => simp [intOf]; omega
      · have hu' : useB free k = false := by simpa using hu
        have es : allL (k + 1) free = allL k free := by rw [allL_succ, if_neg hu]
        have HE : Hid (allL (k + 1) free = allL k free) := es
        clear es hu
        go_wp2
        go_roundw
        case rel => (try ((repeat apply Exists.intro); refine ⟨?_, rfl⟩)); exact ⟨k + 1, by omega, by go_num, ao, cap, o3, by rw [HE.out], by rw [HE.out]; exact r3, s3⟩
        case measure => simp [intOf]; omega
    · obtain rfl : k = n := by omega
      clear h0 h2 h3 h4
      go_wp2
      go_ret
      exact ⟨ao, cap, rfl, o3, r3, s3⟩

/-- Two lists of the same numbers are the same. -/
theorem same_yes (w : World) (o o2 : Nat → Nat) (La Lb n : Nat) (l : List Nat) (va vb : Value) (hl : l.length = n) (hn : n ≤ 5000) (ha : Row w o La 3 1 va n (intsL l)) (hb : Row w o2 Lb 3 1 vb n (intsL l)) :
    Calls Try.prog 39 #[va, vb] w fun e w' => e = .returned (.bool true) ∧ ∃ m, w' = w.drewN m := by
  obtain ⟨aa, ca, rfl⟩ := ha.form
  obtain ⟨ab, cb, rfl⟩ := hb.form
  have HL : Hid (l.length = n) := hl
  clear hl
  go_enter Try.func39, Try.ntmps39
  go_wp2
  go_loopw [5] (fun i wr => ∃ k : Nat, k ≤ n ∧ i = .int .i64 k ∧ ∃ m, wr = w.drewN m) (fun i _ => n - (intOf i).toNat)
  case atStart => exact ⟨0, by omega, by go_num, 0, rfl⟩
  case round =>
    obtain ⟨k, hk, rfl, m, rfl⟩ := hrel
    by_cases hlt : k < n
    · obtain ⟨ga, ca', hv, _, hca, hma, _, hcla, _⟩ := ha.pos (by omega)
      simp only [Value.slice.injEq, true_and] at hv
      obtain ⟨rfl, rfl⟩ := hv
      obtain ⟨gb, cb', hv, _, hcb, hmb, _, hclb, _⟩ := hb.pos (by omega)
      simp only [Value.slice.injEq, true_and] at hv
      obtain ⟨rfl, rfl⟩ := hv
      have hkl : k < l.length := by rw [HL.out]; exact hlt
      have cA := (hcla k (by omega)).trans (intsL_get l k hkl)
      have cB := (hclb k (by omega)).trans (intsL_get l k hkl)
      unfold maxLen at hma hmb
      clear hcla hclb
      go_wp2
      go_quiet (fail)
      go_wp2
      go_roundw
      case rel => (try ((repeat apply Exists.intro); refine ⟨?_, rfl⟩)); exact ⟨k + 1, by omega, by go_num, _, rfl⟩
      case measure => simp [intOf]; omega
    · obtain rfl : k = n := by omega
      go_wp2
      go_ret
      exact ⟨rfl, _, rfl⟩

theorem text_conv (w : World) (x y z : Int) (hx : 0 ≤ x ∧ x < 256) (hy : 0 ≤ y ∧ y < 256) (hz : 0 ≤ z ∧ z < 256) :
    ∃ s : ByteArray, (convert 80 9 (.slice (some ⟨w.heap.size, 0, none⟩) 3 3)).run Try.prog (w.alloc (.cells #[.int .u8 x, .int .u8 y, .int .u8 z] 5)) = .ok (.string s) (w.alloc (.cells #[.int .u8 x, .int .u8 y, .int .u8 z] 5)) := by
  have b : ∀ u : Int, 0 ≤ u ∧ u < 256 → ((UInt8.ofNat u.toNat).toNat : Int) = u := fun u h => by
    rw [UInt8.toNat_ofNat']
    omega
  have e := run_convert_bytes_back (P := Try.prog) (w.alloc (.cells #[.int .u8 x, .int .u8 y, .int .u8 z] 5)) 80 9 5 ⟨w.heap.size, 0, none⟩ 3 [UInt8.ofNat x.toNat, UInt8.ofNat y.toNat, UInt8.ofNat z.toNat] Try.underlying80 Try.underlying5 Try.underlying9 (fun j hj => by
    match j, hj with
    | 0, _ => simp only [List.getElem_cons_zero]; rw [b x hx]; simp [Addr.add]
    | 1, _ => simp only [List.getElem_cons_zero, List.getElem_cons_succ]; rw [b y hy]; simp [Addr.add]
    | 2, _ => simp only [List.getElem_cons_zero, List.getElem_cons_succ]; rw [b z hz]; simp [Addr.add])
  exact ⟨_, e⟩

theorem text_any (w : World) (o : Nat → Nat) (x : Int) (h1 : -9223372036854775808 ≤ x) (h2 : x ≤ 9223372036854775807) :
    Calls Try.prog 11 #[.int .i64 x] w fun e w' => ∃ s : ByteArray, e = .returned (.string s) ∧ Step (fun _ => False) w o w' o := by
  obtain ⟨s, hs⟩ := text_conv w (x % 256) (x / 256 % 256) (x / 65536 % 256) (by omega) (by omega) (by omega)
  go_enter Try.func11, Try.ntmps11
  go_wp2
  go_ret
  exact ⟨s, rfl, (Step.refl _ w o).alloc _⟩

end Go.Proofs.Ytbcpifklnbaooaa
