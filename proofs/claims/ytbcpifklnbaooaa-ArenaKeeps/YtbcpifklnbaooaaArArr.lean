/- The calls of an arena of [2]int: what each answers and what it leaves. -/
import Derived.Test.YtbcpifklnbaooaaArBase
import Derived.Deep.RegionLaw
namespace Go.Proofs.Ytbcpifklnbaooaa
open Go.ChangeShapes Go.WideShapes Go.ChangeAt Go.RowKit
set_option linter.unusedVariables false

theorem lenArr (w : World) (o : Nat → Nat) (L p room n : Nat) (cs : List Value) (free : List Nat) (h : Ar 84 53 2 w o L p room n cs free) :
    Calls Try.prog 18 #[.pointer (some ⟨p, 0, none⟩)] w fun e w' => e = .returned (.int .i64 (n - free.length : Nat)) ∧ ∃ m, w' = w.drewN m := by
  obtain ⟨vt, vi, vf, h0, h1, h2, h3, h4⟩ := h
  obtain ⟨c0, c1, c2, c3, hf⟩ := h0.cells4
  obtain ⟨at', ct, rfl⟩ := h1.form
  obtain ⟨ai, ci, rfl⟩ := h2.form
  obtain ⟨af, cf, rfl⟩ := h3.form
  have hle := h4.free_le
  have hn : n ≤ 4096 := Nat.le_trans h4.le h4.room
  clear h0 h1 h2 h3 h4
  go_enter Try.func18, Try.ntmps18
  go_wp2
  go_quiet (fail)
  go_wp2
  go_ret
  exact ⟨ret_int (by omega), _, rfl⟩

theorem hasArr (w : World) (o : Nat → Nat) (L p room n : Nat) (cs : List Value) (free : List Nat) (x : Int) (h : Ar 84 53 2 w o L p room n cs free) :
    Calls Try.prog 45 #[.pointer (some ⟨p, 0, none⟩), .int .i64 x] w fun e w' => e = .returned (.bool (hasB n free x)) ∧ w' = w := by
  obtain ⟨vt, vi, vf, h0, h1, h2, h3, h4⟩ := h
  obtain ⟨c0, c1, c2, c3, hf⟩ := h0.cells4
  have hn : n ≤ 4096 := Nat.le_trans h4.le h4.room
  by_cases hx : 1 ≤ x ∧ x ≤ n
  · obtain ⟨hx1, hx2⟩ := hx
    obtain ⟨k, rfl⟩ : ∃ k : Nat, x = k + 1 := ⟨x.toNat - 1, by omega⟩
    obtain ⟨g, cap, rfl, hg, hc, hm, hlt, hcell, hfr⟩ := h2.pos (by omega)
    have hk := (hcell k (by omega)).trans (usedL_get n free k (by omega))
    have e : hasB n free (k + 1) = useB free k := by simp [hasB, hx2]; omega
    rw [e]
    have hkn : k < n := by omega
    clear h0 h1 h2 h3 h4 e hcell
    go_enter Try.func45, Try.ntmps45
    go_wp2
    go_ret
    exact ⟨rfl, rfl⟩
  · obtain ⟨ai, ci, rfl⟩ := h2.form
    have e : hasB n free x = false := by
      simp only [hasB, Bool.and_eq_false_iff, decide_eq_false_iff_not]
      omega
    rw [e]
    clear h0 h1 h2 h3 h4 e
    by_cases hx1 : 1 ≤ x
    · have hx2 : ¬ x ≤ n := by omega
      clear hx
      go_enter Try.func45, Try.ntmps45
      go_wp2
      go_ret
      exact ⟨rfl, rfl⟩
    · clear hx
      go_enter Try.func45, Try.ntmps45
      go_wp2
      go_ret
      exact ⟨rfl, rfl⟩

theorem infoEArr : (Try.prog.info? 53).map (fun i => (i.zero, i.size, i.bytes)) = some (some (.agg #[.int .i64 0, .int .i64 0]), 2, 16) := by kernel_rfl
theorem givePopArr (w : World) (o : Nat → Nat) (L p room n : Nat) (cs : List Value) (fs : List Nat) (k : Nat) (h : Ar 84 53 2 w o L p room n cs (fs ++ [k + 1])) :
    Calls Try.prog 44 #[.pointer (some ⟨p, 0, none⟩)] w fun e w' => e = .returned (.int .i64 (k + 1 : Nat)) ∧ ∃ o', Ar 84 53 2 w' o' L p room n cs fs ∧ Step (IL L) w o w' o' := by
  obtain ⟨vt, vi, vf, h0, h1, h2, h3, h4⟩ := h
  have hl : (fs ++ [k + 1]).length = fs.length + 1 := by simp
  rw [hl] at h3
  have hla := h4.last
  have hle := h4.free_le
  rw [hl] at hle
  have hn : n ≤ 4096 := Nat.le_trans h4.le h4.room
  obtain ⟨gi, ci, rfl, hgi, hci, hmi, hlti, hcelli, hfri⟩ := h2.pos (by omega)
  obtain ⟨gf, cf, rfl, hgf, hcf, hmf, hltf, hcellf, hfrf⟩ := h3.pos (by omega)
  have HP := Ar.popped h0 h1 h2 h3 h4
  obtain ⟨c0, c1, c2, c3, hf⟩ := h0.cells4
  have hk := (hcelli k (by omega)).trans (usedL_get n _ k (by omega))
  have hfk : w.cell? ⟨gf, fs.length, none⟩ = some (.int .i64 (k + 1 : Nat)) := (hcellf fs.length (by omega)).trans (by simp [intsL])
  have hpi : p ≠ gi := fun e => by have h5 := h0.2; rw [e] at h5; omega
  have hip : gi ≠ p := hpi.symm
  have hkn : k < n := by omega
  unfold maxLen at hmf hmi
  clear h0 h1 h2 h3 h4 hcelli hcellf hla hl
  go_enter Try.func44, Try.ntmps44
  go_wp2
  go_ret
  exact ⟨ret_int (by omega), o, HP.1, HP.2⟩

theorem dropOutArr (w : World) (o : Nat → Nat) (L p room n : Nat) (cs : List Value) (free : List Nat) (x : Int) (hb : hasB n free x = false) (h : Ar 84 53 2 w o L p room n cs free) :
    Calls Try.prog 19 #[.pointer (some ⟨p, 0, none⟩), .int .i64 x] w fun e w' => e = .returned (.int .i64 21) ∧ w' = w := by
  have hc := hasArr w o L p room n cs free x h
  rw [hb] at hc
  clear hb h
  go_enter Try.func19, Try.ntmps19
  go_wp2_with fail
  refine hc.mono ?_
  rintro e w1 ⟨rfl, rfl⟩
  go_wp2
  go_ret
  exact ⟨rfl, rfl⟩

theorem newBadArr (w : World) (x : Int) (hx : x < 0 ∨ 4096 < x) :
    Calls Try.prog 16 #[.int .i64 x] w fun e w' => e = .returned (.tuple #[.pointer none, .int .i64 1]) ∧ w' = w := by
  rcases hx with hx | hx
  · go_enter Try.func16, Try.ntmps16
    go_wp2
    go_ret2
    exact ⟨rfl, rfl⟩
  · have hx0 : ¬ x < 0 := by omega
    go_enter Try.func16, Try.ntmps16
    go_wp2
    go_ret2
    exact ⟨rfl, rfl⟩

theorem newArr (w : World) (o : Nat → Nat) (L r : Nat) (hr : r ≤ 4096) :
    Calls Try.prog 16 #[.int .i64 r] w fun e w' => e = .returned (.tuple #[.pointer (some ⟨w.heap.size, 0, none⟩), .int .i64 0]) ∧ ∃ o', Ar 84 53 2 w' o' L w.heap.size r 0 [] [] ∧ Step (fun _ => False) w o w' o' := by
  have R := @Ar.new 84 53 2 w o L r hr
  have hx0 : ¬ (r : Int) < 0 := by omega
  have hx1 : ¬ (4096 : Int) < (r : Int) := by omega
  go_enter Try.func16, Try.ntmps16
  go_wp2
  go_ret2
  exact ⟨rfl, _, R, newStep _ _ _ _ _⟩

set_option maxRecDepth 100000 in
theorem allArr (w : World) (o : Nat → Nat) (L p room n lb : Nat) (cs : List Value) (free : List Nat) (hlb : ¬ IL L lb) (h : Ar 84 53 2 w o L p room n cs free) :
    Calls Try.prog 23 #[.pointer (some ⟨p, 0, none⟩)] w fun e w' => ∃ g cap o', e = .returned (.slice (some ⟨g, 0, none⟩) (allL n free).length cap) ∧ Row w' o' lb 3 1 (.slice (some ⟨g, 0, none⟩) (allL n free).length cap) (allL n free).length (intsL (allL n free)) ∧ Step (fun k => k = lb) w o w' o' := by
  have hl := lenArr w o L p room n cs free h
  obtain ⟨vt, vi, vf, h0, h1, h2, h3, h4⟩ := h
  have hn : n ≤ 4096 := Nat.le_trans h4.le h4.room
  have hfl := h4.free_le
  obtain ⟨ai, ci, rfl⟩ := h2.form
  obtain ⟨c0, c1, c2, c3, hf⟩ := h0.cells4
  obtain ⟨ii, hii, hzi0, hzi1, hzi2⟩ := info_parts infoInt
  have hbig : ∀ k : Nat, k ≤ n → (k : Int) ≤ 4096 := fun k hk => by omega
  go_enter Try.func23, Try.ntmps23
  go_wp2_with fail
  refine hl.mono ?_
  rintro e w1 ⟨rfl, m1, rfl⟩
  clear hl
  go_wp2_with (at_make; refine wpList_make_own _ rfl _ _ 35 rfl w.heap.size 3 ii (.int .i64 0) 1 Try.underlying35 hii hzi0 hzi1 .i64 .i64 _ (n - free.length) rfl rfl (by omega) ?b2 ?b3 (Nat.le_refl _) ?_)
  case b2 => rw [hzi2]; omega
  case b3 => unfold maxLen; omega
  intro w2 hown hgr
  have s2 : Step (fun k => k = lb) w o w2 (newLab w o lb) := ⟨hgr.os, hgr.tape, hgr.output, hgr.size, fun k hk => newLab_old hk, fun k hk _ => hgr.block k hk (by simp)⟩
  have r2 : Row w2 (newLab w o lb) lb 3 1 (.slice (some ⟨w.heap.size, 0, none⟩) 0 (n - free.length)) 0 [] := by
    refine ⟨?_, fun k hk => ?_⟩
    · exact ownsRow_base0 hown
    · simp [Value.ownBlock] at hk; subst hk; exact newLab_new (Nat.le_refl _)
  have k0 := (h0.step s2 (fun e => hlb (by rw [← e]; exact IL.mk (by omega) (by omega)))).cells4
  obtain ⟨d0, d1, d2, d3, hfd⟩ := k0
  clear hown hgr c0 c1 c2 c3 hf
  go_wp2
  go_loopw [3, 14] (fun v i wr => ∃ k : Nat, k ≤ n ∧ i = .int .i64 k ∧ ∃ g cap o', v = .slice (some ⟨g, 0, none⟩) (allL k free).length cap ∧ Row wr o' lb 3 1 (.slice (some ⟨g, 0, none⟩) (allL k free).length cap) (allL k free).length (intsL (allL k free)) ∧ Step (fun k => k = lb) w o wr o') (fun _ i _ => n - (intOf i).toNat)
  case atStart => exact ⟨0, Nat.zero_le _, rfl, _, _, _, rfl, r2, s2⟩
  case round =>
    obtain ⟨k, hk, rfl, g, cap, o3, rfl, r3, s3⟩ := hrel
    have hal := allL_le k free
    by_cases hlt : k < n
    · have hx2 := h2.step s3 (fun e => hlb (by rw [← e]; exact IL.mk (by omega) (by omega)))
      obtain ⟨gi, ci', hv, hgi, hci, hmi, hlti, hcelli, hfri⟩ := hx2.pos (by omega)
      simp only [Value.slice.injEq] at hv
      obtain ⟨rfl, _, rfl⟩ := hv
      have hki := (hcelli k (by omega)).trans (usedL_get n free k hlt)
      unfold maxLen at hmi
      clear hcelli hx2 s2 r2 hbig hgi
      by_cases hu : useB free k = true
      · have es : allL (k + 1) free = allL k free ++ [k + 1] := by rw [allL_succ, if_pos hu]
        have HE : Hid (allL (k + 1) free = allL k free ++ [k + 1]) := es
        clear es
        obtain ⟨q, hq⟩ : ∃ q, q = (allL k free).length := ⟨_, rfl⟩
        rw [← hq] at r3 hal
        have HQ : Hid (q = (allL k free).length) := hq
        rw [← hq]
        clear hq
        go_wp2_with (first | (at_builtin; refine wpList_append_lab rfl (.tmp 20) (.tmp 23) 35 rfl 3 ii (.int .i64 0) 1 8 Try.underlying35 hii hzi0 hzi1 hzi2 rfl (by decide) o3 lb _ q (intsL (allL k free)) rfl (r3.step (allocStep (fun _ => False) _ o3 _) (by simp)) ⟨wr.heap.size, 0, none⟩ 1 1 [.int .i64 ((k : Int) + 1)] rfl rfl ?d1 ?d2 (by decide) ?d3 ?d4 ?_) | go_in)
        case d1 => exact new_one_at (by simp) _ _
        case d2 => intro u hu; simp at hu; subst hu; rfl
        case d3 => unfold maxLen; omega
        case d4 => omega
        intro g4 cap4 w4 o4 hr hs
        have s4 := s3.trans ((allocStep (fun x => x = lb) wr o3 _).trans hs)
        have e2 : intsL (allL k free) ++ [.int .i64 ((k : Int) + 1)] = intsL (allL (k + 1) free) := by rw [HE.out]; simp [intsL]
        have e3 : q + 1 = (allL (k + 1) free).length := by rw [HE.out, HQ.out]; simp
        rw [e2] at hr
        have HE3 : Hid (q + 1 = (allL (k + 1) free).length) := e3
        clear e2 e3 hs r3 s3
        go_wp2
        go_roundw
        case rel => (try ((repeat apply Exists.intro); refine ⟨?_, rfl⟩)); exact ⟨k + 1, by omega, by go_num, g4, cap4, o4, by rw [← HE3.out], by rw [← HE3.out]; exact hr, s4⟩
        case measure => simp [intOf]; omega
      · have hu' : useB free k = false := by simpa using hu
        have es : allL (k + 1) free = allL k free := by rw [allL_succ, if_neg hu]
        have HE : Hid (allL (k + 1) free = allL k free) := es
        clear es hu
        go_wp2
        go_roundw
        case rel => (try ((repeat apply Exists.intro); refine ⟨?_, rfl⟩)); exact ⟨k + 1, by omega, by go_num, g, cap, o3, by rw [HE.out], by rw [HE.out]; exact r3, s3⟩
        case measure => simp [intOf]; omega
    · obtain rfl : k = n := by omega
      clear h0 h1 h2 h3 h4 hbig s2 r2
      go_wp2
      go_ret
      exact ⟨g, cap, o3, rfl, r3, s3⟩

/-- What an arena of pairs holds, cell by cell. -/
def flat2 (ts : List (Int × Int)) : List Value := ts.flatMap fun q => [.int .i64 q.1, .int .i64 q.2]
theorem flat2_length (ts : List (Int × Int)) : (flat2 ts).length = ts.length * 2 := by
  induction ts with
  | nil => rfl
  | cons a l ih => simp only [flat2, List.flatMap_cons, List.length_append, List.length_cons, List.length_nil] at ih ⊢; omega
theorem flat2_get0 : ∀ (ts : List (Int × Int)) (k : Nat) (h : k < ts.length), (flat2 ts)[k * 2]? = some (.int .i64 ts[k].1)
  | a :: l, 0, _ => by simp [flat2]
  | a :: l, k + 1, h => by
    have := flat2_get0 l k (by simpa using h)
    simp only [flat2, List.flatMap_cons, List.cons_append, List.nil_append, show (k + 1) * 2 = k * 2 + 1 + 1 by omega, List.getElem?_cons_succ] at this ⊢
    simpa using this
theorem flat2_get1 : ∀ (ts : List (Int × Int)) (k : Nat) (h : k < ts.length), (flat2 ts)[k * 2 + 1]? = some (.int .i64 ts[k].2)
  | a :: l, 0, _ => by simp [flat2]
  | a :: l, k + 1, h => by
    have := flat2_get1 l k (by simpa using h)
    simp only [flat2, List.flatMap_cons, List.cons_append, List.nil_append, show (k + 1) * 2 + 1 = k * 2 + 1 + 1 + 1 by omega, List.getElem?_cons_succ] at this ⊢
    simpa using this
theorem flat2_set : ∀ (ts : List (Int × Int)) (k : Nat) (a b : Int), ((flat2 ts).set (k * 2) (.int .i64 a)).set (k * 2 + 1) (.int .i64 b) = flat2 (ts.set k (a, b))
  | [], k, a, b => by simp [flat2]
  | x :: l, 0, a, b => by simp [flat2]
  | x :: l, k + 1, a, b => by
    have := flat2_set l k a b
    simp only [flat2, List.flatMap_cons, List.cons_append, List.nil_append, show (k + 1) * 2 = k * 2 + 1 + 1 by omega, List.set_cons_succ] at this ⊢
    rw [this]
theorem flat2_push (ts : List (Int × Int)) (a b : Int) : flat2 ts ++ [.int .i64 a, .int .i64 b] = flat2 (ts ++ [(a, b)]) := by simp [flat2]

/-- One pair, opened: where it lies, and what a store there leaves. -/
theorem Ar.open2 {TA E : Nat} {w : World} {o : Nat → Nat} {L p room n : Nat} {ts : List (Int × Int)} {free : List Nat} (h : Ar TA E 2 w o L p room n (flat2 ts) free) (k : Nat) (hk : k < n) :
    ∃ g cap, ∃ hk' : k < ts.length, w.cell? ⟨p, 1, none⟩ = some (.slice (some ⟨g, 0, none⟩) n cap) ∧ w.cell? ⟨g, k * 2, none⟩ = some (.int .i64 ts[k].1) ∧ w.cell? ⟨g, k * 2 + 1, none⟩ = some (.int .i64 ts[k].2) ∧ (∀ j, w.frozen? ⟨g, j, none⟩ = false) ∧ n ≤ cap ∧ cap ≤ maxLen ∧ g < w.heap.size ∧ o g = L + 1 ∧
      (∀ a b, Ar TA E 2 ((w.setCell ⟨g, k * 2, none⟩ (.int .i64 a)).setCell ⟨g, k * 2 + 1, none⟩ (.int .i64 b)) o L p room n (flat2 (ts.set k (a, b))) free ∧ Step (IL L) w o ((w.setCell ⟨g, k * 2, none⟩ (.int .i64 a)).setCell ⟨g, k * 2 + 1, none⟩ (.int .i64 b)) o) := by
  obtain ⟨vt, vi, vf, h0, h1, h2, h3, h4⟩ := h
  have hl := h1.len
  rw [flat2_length] at hl
  have hk' : k < ts.length := by omega
  obtain ⟨g, cap, rfl, hg, hc, hm, hlt, hcell, hfr⟩ := h1.pos (by omega)
  refine ⟨g, cap, hk', by simp [cell_of_row w p _ _ TA (0, 0) h0.1], (hcell _ (by omega)).trans (flat2_get0 ts k hk'), (hcell _ (by omega)).trans (flat2_get1 ts k hk'), hfr, hc, hm, hlt, hg, fun a b => ?_⟩
  have s1 := setStep (fun x => x = L + 1) w o ⟨g, k * 2, none⟩ (.int .i64 a) hg
  have s2 := setStep (fun x => x = L + 1) (w.setCell ⟨g, k * 2, none⟩ (.int .i64 a)) o ⟨g, k * 2 + 1, none⟩ (.int .i64 b) hg
  have s := s1.trans s2
  refine ⟨⟨_, vi, vf, h0.step s (by omega), ?_, h2.step s (by omega), h3.step s (by omega), h4⟩, s.mono fun x hx => IL.mk (by omega) (by omega)⟩
  have := (h1.store (k * 2) (.int .i64 a)).store (k * 2 + 1) (.int .i64 b)
  rwa [flat2_set] at this

/-- A pair that was boxed stays while the arena is written. -/
theorem box_stays {w w1 : World} {o o1 : Nat → Nat} {L m : Nat} {a b : Value} {t : TypeId} (hs : Step (IL L) ((w.alloc (.cells #[a, b] t)).drewN m) (newLab w o (L + 4)) w1 o1) :
    w1.cell? ⟨w.heap.size, 0, none⟩ = some a ∧ w1.cell? ⟨w.heap.size, 1, none⟩ = some b := by
  have hb : w1.heap[w.heap.size]? = some (.cells #[a, b] t) := (hs.block w.heap.size (by simp) (by rw [newLab_new (Nat.le_refl _)]; unfold IL; omega)).trans (heap_alloc_new w _)
  exact ⟨by simp [cell_of_row w1 w.heap.size _ _ t (0, 0) hb], by simp [cell_of_row w1 w.heap.size _ _ t (0, 0) hb]⟩

/-- A pair as a value. -/
abbrev pr (a b : Int) : Value := .agg #[.int .i64 a, .int .i64 b]

theorem putFullArr (w : World) (o : Nat → Nat) (L p room n : Nat) (cs : List Value) (free : List Nat) (a b : Int) (hfull : n - free.length = room) (h : Ar 84 53 2 w o L p room n cs free) :
    Calls Try.prog 17 #[.pointer (some ⟨p, 0, none⟩), pr a b] w fun e w' => e = .returned (.tuple #[.int .i64 0, .int .i64 20]) ∧ Step (fun _ => False) w o w' o := by
  have hx := h
  obtain ⟨vt, vi, vf, h0, h1, h2, h3, h4⟩ := hx
  have hp := h0.lt
  obtain ⟨c0, c1, c2, c3, hf⟩ := h0.cells4
  have hle := h4.free_le
  have hn : n ≤ 4096 := Nat.le_trans h4.le h4.room
  clear h0 h1 h2 h3 h4
  have hlen := fun wx hh => lenArr wx o L p room n cs free hh
  rw [hfull] at hlen
  have hA : ∀ ob, Ar 84 53 2 (w.alloc ob) o L p room n cs free := fun ob => h.step (allocStep (fun _ => False) w o ob) (fun _ _ => id)
  go_enter Try.func17, Try.ntmps17
  go_wp2
  go_quiet ((go_at_call 18; exact Calls.quiet_of (hlen _ (hA _))))
  go_wp2
  go_ret2
  exact ⟨rfl, ((Step.refl _ w o).alloc _).drewN _⟩

theorem putPopArr (w : World) (o : Nat → Nat) (L p room n : Nat) (ts : List (Int × Int)) (fs : List Nat) (k : Nat) (a b : Int) (h : Ar 84 53 2 w o L p room n (flat2 ts) (fs ++ [k + 1])) :
    Calls Try.prog 17 #[.pointer (some ⟨p, 0, none⟩), pr a b] w fun e w' => e = .returned (.tuple #[.int .i64 (k + 1 : Nat), .int .i64 0]) ∧ ∃ o', Ar 84 53 2 w' o' L p room n (flat2 (ts.set k (a, b))) fs ∧ Step (IL L) w o w' o' := by
  have hx := h
  obtain ⟨vt, vi, vf, h0, h1, h2, h3, h4⟩ := hx
  have hp := h0.lt
  obtain ⟨c0, c1, c2, c3, hf⟩ := h0.cells4
  have hle := h4.free_le
  have hla := h4.last
  have hnr := h4.le
  have hn : n ≤ 4096 := Nat.le_trans h4.le h4.room
  have hkn : k < n := by omega
  have hrm := h4.room
  have hne : ((((n - (fs ++ [k + 1]).length : Nat) : Int)) == (room : Int)) = false := by simp only [beq_eq_false_iff_ne, ne_eq]; simp only [List.length_append, List.length_singleton] at hle ⊢; omega
  clear h0 h1 h2 h3 h4
  obtain ⟨q, hq⟩ : ∃ q, q = n - (fs ++ [k + 1]).length := ⟨_, rfl⟩
  have hlen := fun wx hh => lenArr wx (newLab w o (L + 4)) L p room n (flat2 ts) (fs ++ [k + 1]) hh
  rw [← hq] at hlen hne
  clear hq
  have hA : ∀ ob, Ar 84 53 2 (w.alloc ob) (newLab w o (L + 4)) L p room n (flat2 ts) (fs ++ [k + 1]) := fun ob => h.step (newStep (fun _ => False) w o (L + 4) ob) (fun _ _ => id)
  go_enter Try.func17, Try.ntmps17
  go_wp2
  go_quiet ((go_at_call 18; exact Calls.quiet_of (hlen _ (hA _))))
  go_wp2_with fail
  refine (givePopArr _ _ L p room n (flat2 ts) fs k ((hA _).drewN _)).mono ?_
  rintro e w1 ⟨rfl, o1, ha1, hs1⟩
  obtain ⟨g, cap, hk', d1, dk, dk2, dfr, hcap, hmax, hgl, hog, hset⟩ := ha1.open2 k hkn
  unfold maxLen at hmax
  have R := hset a b
  obtain ⟨b0, b1⟩ := box_stays hs1
  have hs0 : Step (IL L) w o w1 o1 := ((newStep (IL L) w o (L + 4) _).drewN _).trans hs1
  clear hset hog hs1 ha1 h hlen hA
  go_wp2
  go_region
  all_goals
    go_wp2
    go_ret2
    exact ⟨rfl, o1, R.1, hs0.trans R.2.drew⟩

theorem givePushArr (w : World) (o : Nat → Nat) (L p room n : Nat) (cs : List Value) (hroom : n < room) (h : Ar 84 53 2 w o L p room n cs []) :
    Calls Try.prog 44 #[.pointer (some ⟨p, 0, none⟩)] w fun e w' => e = .returned (.int .i64 (n + 1 : Nat)) ∧ ∃ o', Ar 84 53 2 w' o' L p room (n + 1) (cs ++ [.int .i64 0, .int .i64 0]) [] ∧ Step (IL L) w o w' o' := by
  obtain ⟨vt, vi, vf, h0, h1, h2, h3, h4⟩ := h
  obtain ⟨af, cf, rfl⟩ := h3.form
  have hn : n < 4096 := Nat.lt_of_lt_of_le hroom h4.room
  have hp := h0.lt
  have hx0 := h0
  obtain ⟨c0, c1, c2, c3, hf⟩ := hx0.cells4
  clear hx0
  obtain ⟨i0, hi, hz0, hz1, hz2⟩ := info_parts infoEArr
  obtain ⟨ib, hib, hzb0, hzb1, hzb2⟩ := info_parts infoBool
  have b1 : n + 1 ≤ maxLen := by unfold maxLen; omega
  have b2 : (n + 1) * 16 ≤ 140737488355328 := by omega
  have hone : ∀ u ∈ [Value.int .i64 0, Value.int .i64 0], u.oneCell' = true := by intro u hu; simp at hu; subst hu; rfl
  go_enter Try.func44, Try.ntmps44
  go_wp2
  go_region_law (refine step_append_lab rfl (.tmp 42) (.tmp 44) 82 rfl 53 i0 (.agg #[.int .i64 0, .int .i64 0]) 2 16 Try.underlying82 hi hz0 hz1 hz2 rfl (by decide) o (L + 1) vt n cs (by simp [Act.eval]) (h1.step ((((Step.refl (fun _ => False) w o).alloc _).alloc _).drew) (by simp)) ⟨w.heap.size + 1, 0, none⟩ 1 1 [.int .i64 0, .int .i64 0] (by simp [Act.eval]) rfl (new_two_at (by simp) _ _ _) hone (by decide) b1 b2 ?_; intro g cap w1 o1 hr1 hs1; have sA : Step (fun k => k = L + 1) w o w1 o1 := (((allocStep _ w o _).alloc _).drew).trans hs1; have k0 := h0.step sA (by omega); obtain ⟨d0, d1, d2, d3, hfd⟩ := k0.cells4)
  all_goals
    have sB := setStep (fun x => x = L) w1 o1 ⟨p, 1, none⟩ (.slice (some ⟨g, 0, none⟩) (n + 1) cap) k0.2
    have k2 := (h2.step sA (by omega)).step sB (by omega)
    go_wp2_with (first | (at_builtin; refine wpList_append_lab rfl (.tmp 52) (.tmp 53) 68 rfl 4 ib (.bool false) 1 1 Try.underlying68 hib hzb0 hzb1 hzb2 rfl (by decide) o1 (L + 2) vi n (usedL n []) rfl (k2.step (allocStep (fun _ => False) _ o1 _) (by simp)) ⟨w1.heap.size, 0, none⟩ 1 1 [.bool true] rfl rfl (new_one_at (by simp) _ _) (by intro u hu; simp at hu; subst hu; rfl) (by decide) b1 (by omega) ?_) | go_in)
    intro g2 cap2 w2 o2 hr2 hs2
    have m0 := k0.set 1 (.slice (some ⟨g, 0, none⟩) (n + 1) cap)
    have sC := (allocStep (fun k => k = L + 2) _ o1 _).trans hs2
    have n0 := m0.step sC (by omega)
    obtain ⟨e0, e1, e2, e3, hfe⟩ := Blk.cells4 n0
    have R := Ar.pushed h0 h3 h4 hroom hr1 sA hr2 sC
    clear h0 h1 h2 h3 h4 hr1 hs1 hr2 hs2 m0 n0 k2 sB k0 sA sC
    go_wp2
    go_ret
    exact ⟨ret_int (by omega), o2, R.1, R.2⟩

theorem putPushArr (w : World) (o : Nat → Nat) (L p room n : Nat) (ts : List (Int × Int)) (a b : Int) (hroom : n < room) (h : Ar 84 53 2 w o L p room n (flat2 ts) []) :
    Calls Try.prog 17 #[.pointer (some ⟨p, 0, none⟩), pr a b] w fun e w' => e = .returned (.tuple #[.int .i64 (n + 1 : Nat), .int .i64 0]) ∧ ∃ o', Ar 84 53 2 w' o' L p room (n + 1) (flat2 (ts ++ [(a, b)])) [] ∧ Step (IL L) w o w' o' := by
  have hx := h
  obtain ⟨vt, vi, vf, h0, h1, h2, h3, h4⟩ := hx
  have hp := h0.lt
  have hcl := h1.len
  rw [flat2_length] at hcl
  have hn1 : ts.length = n := by omega
  obtain ⟨c0, c1, c2, c3, hf⟩ := h0.cells4
  have hnr := h4.le
  have hrm := h4.room
  have hn : n ≤ 4096 := Nat.le_trans h4.le h4.room
  have hne : (((n : Int)) == (room : Int)) = false := by simp only [beq_eq_false_iff_ne, ne_eq]; omega
  clear h0 h1 h2 h3 h4 hcl
  have hlen := fun wx hh => lenArr wx (newLab w o (L + 4)) L p room n (flat2 ts) [] hh
  have hA : ∀ ob, Ar 84 53 2 (w.alloc ob) (newLab w o (L + 4)) L p room n (flat2 ts) [] := fun ob => h.step (newStep (fun _ => False) w o (L + 4) ob) (fun _ _ => id)
  have HN : Hid (ts.length = n) := hn1
  clear hn1
  go_enter Try.func17, Try.ntmps17
  go_wp2
  go_quiet ((go_at_call 18; exact Calls.quiet_of (hlen _ (hA _))))
  go_wp2_with fail
  refine (givePushArr _ _ L p room n (flat2 ts) hroom ((hA _).drewN _)).mono ?_
  rintro e w1 ⟨rfl, o1, ha1, hs1⟩
  rw [flat2_push] at ha1
  obtain ⟨g, cap, hk', d1, dk, dk2, dfr, hcap, hmax, hgl, hog, hset⟩ := ha1.open2 n (by omega)
  unfold maxLen at hmax
  have R := hset a b
  have e2 : (ts ++ [((0 : Int), (0 : Int))]).set n (a, b) = ts ++ [(a, b)] := by rw [← HN.out]; simp
  rw [e2] at R
  obtain ⟨b0, b1⟩ := box_stays hs1
  have hs0 : Step (IL L) w o w1 o1 := ((newStep (IL L) w o (L + 4) _).drewN _).trans hs1
  clear hset hog hs1 ha1 h hlen hA e2
  go_wp2
  go_region
  all_goals
    go_wp2
    go_ret2
    exact ⟨rfl, o1, R.1, hs0.trans R.2.drew⟩

theorem getInArr (w : World) (o : Nat → Nat) (L p room n : Nat) (ts : List (Int × Int)) (free : List Nat) (k : Nat) (a b : Int) (hk : k < n) (hu : useB free k = true) (hy : ts[k]? = some (a, b)) (h : Ar 84 53 2 w o L p room n (flat2 ts) free) :
    Calls Try.prog 22 #[.pointer (some ⟨p, 0, none⟩), .int .i64 (k + 1 : Nat)] w fun e w' => e = .returned (.tuple #[pr a b, .int .i64 0]) ∧ Step (fun _ => False) w o w' o := by
  have hA : ∀ ob, Ar 84 53 2 (w.alloc ob) o L p room n (flat2 ts) free := fun ob => h.step (allocStep (fun _ => False) w o ob) (fun _ _ => id)
  have hc := fun ob => hasArr (w.alloc ob) o L p room n (flat2 ts) free (k + 1 : Nat) (hA ob)
  have hb : hasB n free (k + 1 : Nat) = true := by simp [hasB, hu]; omega
  rw [hb] at hc
  have hn : n ≤ 4096 := Nat.le_trans h.wf.le h.wf.room
  have hp := h.lt
  obtain ⟨g, cap, hk', d1, dk, dk2, dfr, hcap, hmax, hgl, hog, hset⟩ := h.open2 k hk
  have e1 : ts[k] = (a, b) := by rw [List.getElem?_eq_getElem hk'] at hy; exact Option.some.inj hy
  rw [e1] at dk dk2
  unfold maxLen at hmax
  clear hset hb hu hy h hA hog e1
  go_enter Try.func22, Try.ntmps22
  go_wp2_with fail
  refine (hc _).mono ?_
  rintro e w1 ⟨rfl, rfl⟩
  go_wp2
  exact bodyPost_ret (v := .tuple #[pr a b, .int .i64 0]) (by simp [results, Try.results22, go_sem]) rfl ⟨rfl, (Step.refl _ w o).alloc _⟩

/-- What 'Drop' leaves, the thing itself aside. -/
theorem Ar.freed {TA E size : Nat} {w w2 : World} {o o2 : Nat → Nat} {L p room n gi ci g cap : Nat} {vt vf : Value} {cs : List Value} {free : List Nat} {k : Nat}
    (h0 : Blk w o L p (.cells #[.int .i64 room, vt, .slice (some ⟨gi, 0, none⟩) n ci, vf] TA (0, 0)))
    (h1 : Row w o (L + 1) E size vt n cs) (h2 : Row w o (L + 2) 4 1 (.slice (some ⟨gi, 0, none⟩) n ci) n (usedL n free))
    (h3 : Row w o (L + 3) 3 1 vf free.length (intsL free)) (h4 : WF room n free) (hk : k < n) (hu : useB free k = true)
    (hr : Row w2 o2 (L + 3) 3 1 (.slice (some ⟨g, 0, none⟩) (free.length + 1) cap) (free.length + 1) (intsL free ++ [.int .i64 (k + 1 : Nat)]))
    (s3 : Step (fun x => x = L + 3) (w.setCell ⟨gi, k, none⟩ (.bool false)) o w2 o2) :
    Ar TA E size (w2.setCell ⟨p, 3, none⟩ (.slice (some ⟨g, 0, none⟩) (free.length + 1) cap)) o2 L p room n cs (free ++ [k + 1]) ∧
      Step (IL L) w o (w2.setCell ⟨p, 3, none⟩ (.slice (some ⟨g, 0, none⟩) (free.length + 1) cap)) o2 := by
  have s2 := setStep (fun x => x = L + 2) w o ⟨gi, k, none⟩ (.bool false) (h2.2 gi rfl)
  have k0 := (h0.step s2 (by omega)).step s3 (by omega)
  have s4 := setStep (fun x => x = L) w2 o2 ⟨p, 3, none⟩ (.slice (some ⟨g, 0, none⟩) (free.length + 1) cap) k0.2
  have k2 := h2.store k (.bool false)
  have e := usedL_drop n free (k + 1) (by omega)
  rw [Nat.add_sub_cancel] at e
  rw [e] at k2
  have e2 : intsL free ++ [.int .i64 (k + 1 : Nat)] = intsL (free ++ [k + 1]) := by simp [intsL]
  rw [e2] at hr
  have e3 : free.length + 1 = (free ++ [k + 1]).length := by simp
  refine ⟨⟨_, _, _, k0.set 3 _, ((h1.step s2 (by omega)).step s3 (by omega)).step s4 (by omega), (k2.step s3 (by omega)).step s4 (by omega), ?_, h4.drop (h := k + 1) (by omega) (by omega) (by simpa using hu)⟩, ?_⟩
  · rw [← e3]; exact hr.step s4 (by omega)
  · exact ((s2.mono fun x hx => IL.mk (by omega) (by omega)).trans (s3.mono fun x hx => IL.mk (by omega) (by omega))).trans (s4.mono fun x hx => IL.mk (by omega) (by omega))

theorem dropInArr (w : World) (o : Nat → Nat) (L p room n : Nat) (ts : List (Int × Int)) (free : List Nat) (k : Nat) (hk : k < n) (hu : useB free k = true) (h : Ar 84 53 2 w o L p room n (flat2 ts) free) :
    Calls Try.prog 19 #[.pointer (some ⟨p, 0, none⟩), .int .i64 (k + 1 : Nat)] w fun e w' => e = .returned (.int .i64 0) ∧ ∃ o', Ar 84 53 2 w' o' L p room n (flat2 (ts.set k (0, 0))) (free ++ [k + 1]) ∧ Step (IL L) w o w' o' := by
  have hc := hasArr w o L p room n (flat2 ts) free (k + 1 : Nat) h
  have hb : hasB n free (k + 1 : Nat) = true := by simp [hasB, hu]; omega
  rw [hb] at hc
  clear hb
  have hfl := h.wf.free_le
  have hn : n ≤ 4096 := Nat.le_trans h.wf.le h.wf.room
  have hp := h.lt
  obtain ⟨gt, ct, hk', d1, dk, dk2, dfr, hcap, hmax, hgl, hog, hset⟩ := h.open2 k hk
  have R := hset 0 0
  unfold maxLen at hmax
  obtain ⟨ii, hii, hzi0, hzi1, hzi2⟩ := info_parts infoInt
  have b1 : free.length + 1 ≤ maxLen := by unfold maxLen; omega
  clear hset hog h
  go_enter Try.func19, Try.ntmps19
  go_wp2_with fail
  refine hc.mono ?_
  rintro e w1 ⟨rfl, rfl⟩
  clear hc
  go_wp2
  go_region
  all_goals
    generalize hW : (w1.setCell ⟨gt, k * 2, none⟩ (.int .i64 0)).setCell ⟨gt, k * 2 + 1, none⟩ (.int .i64 0) = W0 at R ⊢
    have hsz : W0.heap.size = w1.heap.size := by rw [← hW]; simp
    clear hW
    obtain ⟨⟨vt, vi, vf, h0, h1, h2, h3, h4⟩, s0⟩ := R
    obtain ⟨gi, ci, rfl, hgi, hci, hmi, hlti, hcelli, hfri⟩ := h2.pos (by omega)
    have hp0 := h0.lt
    obtain ⟨c0, c1, c2, c3, hf⟩ := h0.cells4
    have hki := (hcelli k (by omega)).trans (usedL_get n free k hk)
    have hpo : o p = L := h0.2
    have n2 : p ≠ gi := fun e => by rw [e] at hpo; omega
    have n2' := n2.symm
    unfold maxLen at hmi
    have s2 := setStep (fun x => x = L + 2) W0 o ⟨gi, k, none⟩ (.bool false) hgi
    have k3 := h3.step s2 (by omega)
    have k0 := h0.step s2 (by omega)
    clear d1 dk dk2 dfr hcap hmax hgl hcelli hsz
    go_wp2_with (first | (at_builtin; refine wpList_append_lab rfl (.tmp 29) (.tmp 31) 35 rfl 3 ii (.int .i64 0) 1 8 Try.underlying35 hii hzi0 hzi1 hzi2 rfl (by decide) o (L + 3) vf free.length (intsL free) rfl (k3.step ((((Step.refl (fun _ => False) _ o).alloc _).alloc _).drew) (by simp)) ⟨W0.heap.size + 1, 0, none⟩ 1 1 [.int .i64 ((k : Int) + 1)] rfl rfl (new_one_at (by simp) _ _) (by intro u hu; simp at hu; subst hu; rfl) (by decide) b1 (by omega) ?_) | go_in)
    intro g cap w2 o2 hr hs
    have s3 := (((Step.refl (fun x => x = L + 3) (W0.setCell ⟨gi, k, none⟩ (.bool false)) o).alloc _).alloc _).drew.trans hs
    have R := Ar.freed h0 h1 h2 h3 h4 hk hu hr s3
    have n0 := k0.step s3 (by omega)
    obtain ⟨e0, e1, e2, e3, hfe⟩ := Blk.cells4 n0
    have R2 := s0.trans R.2
    have R1 := R.1
    clear h0 h1 h2 h3 h4 hr hs n0 k0 k3 s3 R s2 s0
    go_wp2
    go_ret
    exact ⟨rfl, o2, R1, R2⟩

end Go.Proofs.Ytbcpifklnbaooaa
