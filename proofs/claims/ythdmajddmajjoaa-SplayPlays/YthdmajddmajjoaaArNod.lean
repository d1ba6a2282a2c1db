/- The calls of an arena of *splay.node: what each answers and what it leaves. -/
import Derived.Test.YthdmajddmajjoaaRows
import Derived.Test.YthdmajddmajjoaaAr
import Derived.Deep.RegionLaw
namespace Go.Proofs.Ythdmajddmajjoaa
open Go.ChangeShapes Go.WideShapes Go.ChangeAt Go.RowKit
set_option linter.unusedVariables false

theorem infoBool : (Try.prog.info? 4).map (fun i => (i.zero, i.size, i.bytes)) = some (some (.bool false), 1, 1) := by kernel_rfl
theorem infoInt : (Try.prog.info? 3).map (fun i => (i.zero, i.size, i.bytes)) = some (some (.int .i64 0), 1, 8) := by kernel_rfl
/-- What a walk reads of an arena's block. -/
theorem Blk.cells4 {w : World} {o : Nat → Nat} {i b : Nat} {a0 a1 a2 a3 : Value} {t : TypeId} (h : Blk w o i b (.cells #[a0, a1, a2, a3] t (0, 0))) :
    w.cell? ⟨b, 0, none⟩ = some a0 ∧ w.cell? ⟨b, 1, none⟩ = some a1 ∧ w.cell? ⟨b, 2, none⟩ = some a2 ∧ w.cell? ⟨b, 3, none⟩ = some a3 ∧ ∀ j, w.frozen? ⟨b, j, none⟩ = false := by
  refine ⟨?_, ?_, ?_, ?_, fun j => frozen_of_row w b j _ t h.1⟩ <;> simp [cell_of_row w b _ _ t (0, 0) h.1]


end Go.Proofs.Ythdmajddmajjoaa
namespace Go.Proofs.Ythdmajddmajjoaa
open Go.ChangeShapes Go.WideShapes Go.ChangeAt Go.RowKit
set_option linter.unusedVariables false

theorem lenNod (w : World) (o : Nat → Nat) (L p room n : Nat) (cs : List Value) (free : List Nat) (h : Ar 87 53 1 w o L p room n cs free) :
    Calls Try.prog 52 #[.pointer (some ⟨p, 0, none⟩)] w fun e w' => e = .returned (.int .i64 (n - free.length : Nat)) ∧ ∃ m, w' = w.drewN m := by
  obtain ⟨vt, vi, vf, h0, h1, h2, h3, h4⟩ := h
  obtain ⟨c0, c1, c2, c3, hf⟩ := h0.cells4
  obtain ⟨at', ct, rfl⟩ := h1.form
  obtain ⟨ai, ci, rfl⟩ := h2.form
  obtain ⟨af, cf, rfl⟩ := h3.form
  have hle := h4.free_le
  have hn : n ≤ 4096 := Nat.le_trans h4.le h4.room
  clear h0 h1 h2 h3 h4
  go_enter Try.func52, Try.ntmps52
  go_wp2
  go_quiet (fail)
  go_wp2
  go_ret
  exact ⟨ret_int (by omega), _, rfl⟩

theorem hasNod (w : World) (o : Nat → Nat) (L p room n : Nat) (cs : List Value) (free : List Nat) (x : Int) (h : Ar 87 53 1 w o L p room n cs free) :
    Calls Try.prog 61 #[.pointer (some ⟨p, 0, none⟩), .int .i64 x] w fun e w' => e = .returned (.bool (hasB n free x)) ∧ w' = w := by
  obtain ⟨vt, vi, vf, h0, h1, h2, h3, h4⟩ := h
  obtain ⟨c0, c1, c2, c3, hf⟩ := h0.cells4
  have hn : n ≤ 4096 := Nat.le_trans h4.le h4.room
  by_cases hx : 1 ≤ x ∧ x ≤ n
  · obtain ⟨hx1, hx2⟩ := hx
    obtain ⟨k, rfl⟩ : ∃ k : Nat, x = k + 1 := ⟨x.toNat - 1, by omega⟩
    obtain ⟨g, cap, rfl, hg, hc, hm, hlt, hcell, hfr⟩ := h2.pos (by omega)
    have hk := (hcell k (by omega)).trans (usedL_get n free k (by omega))
    have e : hasB n free (k + 1) = useB free k := by simp [hasB, hx2]; omega
    rw [e]
    have hkn : k < n := by omega
    clear h0 h1 h2 h3 h4 e hcell
    go_enter Try.func61, Try.ntmps61
    go_wp2
    go_ret
    exact ⟨rfl, rfl⟩
  · obtain ⟨ai, ci, rfl⟩ := h2.form
    have e : hasB n free x = false := by
      simp only [hasB, Bool.and_eq_false_iff, decide_eq_false_iff_not]
      omega
    rw [e]
    clear h0 h1 h2 h3 h4 e
    by_cases hx1 : 1 ≤ x
    · have hx2 : ¬ x ≤ n := by omega
      clear hx
      go_enter Try.func61, Try.ntmps61
      go_wp2
      go_ret
      exact ⟨rfl, rfl⟩
    · clear hx
      go_enter Try.func61, Try.ntmps61
      go_wp2
      go_ret
      exact ⟨rfl, rfl⟩

theorem infoENod : (Try.prog.info? 53).map (fun i => (i.zero, i.size, i.bytes)) = some (some (Value.pointer none), 1, 8) := by kernel_rfl
theorem givePopNod (w : World) (o : Nat → Nat) (L p room n : Nat) (cs : List Value) (fs : List Nat) (k : Nat) (h : Ar 87 53 1 w o L p room n cs (fs ++ [k + 1])) :
    Calls Try.prog 53 #[.pointer (some ⟨p, 0, none⟩)] w fun e w' => e = .returned (.int .i64 (k + 1 : Nat)) ∧ ∃ o', Ar 87 53 1 w' o' L p room n cs fs ∧ Step (IL L) w o w' o' := by
  obtain ⟨vt, vi, vf, h0, h1, h2, h3, h4⟩ := h
  have hl : (fs ++ [k + 1]).length = fs.length + 1 := by simp
  rw [hl] at h3
  have hla := h4.last
  have hle := h4.free_le
  rw [hl] at hle
  have hn : n ≤ 4096 := Nat.le_trans h4.le h4.room
  obtain ⟨gi, ci, rfl, hgi, hci, hmi, hlti, hcelli, hfri⟩ := h2.pos (by omega)
  obtain ⟨gf, cf, rfl, hgf, hcf, hmf, hltf, hcellf, hfrf⟩ := h3.pos (by omega)
  have HP := Ar.popped h0 h1 h2 h3 h4
  obtain ⟨c0, c1, c2, c3, hf⟩ := h0.cells4
  have hk := (hcelli k (by omega)).trans (usedL_get n _ k (by omega))
  have hfk : w.cell? ⟨gf, fs.length, none⟩ = some (.int .i64 (k + 1 : Nat)) := (hcellf fs.length (by omega)).trans (by simp [intsL])
  have hpi : p ≠ gi := fun e => by have h5 := h0.2; rw [e] at h5; omega
  have hip : gi ≠ p := hpi.symm
  have hkn : k < n := by omega
  unfold maxLen at hmf hmi
  clear h0 h1 h2 h3 h4 hcelli hcellf hla hl
  go_enter Try.func53, Try.ntmps53
  go_wp2
  go_ret
  exact ⟨ret_int (by omega), o, HP.1, HP.2⟩

theorem givePushNod (w : World) (o : Nat → Nat) (L p room n : Nat) (cs : List Value) (hroom : n < room) (h : Ar 87 53 1 w o L p room n cs []) :
    Calls Try.prog 53 #[.pointer (some ⟨p, 0, none⟩)] w fun e w' => e = .returned (.int .i64 (n + 1 : Nat)) ∧ ∃ o', Ar 87 53 1 w' o' L p room (n + 1) (cs ++ [Value.pointer none]) [] ∧ Step (IL L) w o w' o' := by
  obtain ⟨vt, vi, vf, h0, h1, h2, h3, h4⟩ := h
  obtain ⟨af, cf, rfl⟩ := h3.form
  have hn : n < 4096 := Nat.lt_of_lt_of_le hroom h4.room
  have hx0 := h0
  obtain ⟨c0, c1, c2, c3, hf⟩ := hx0.cells4
  clear hx0
  obtain ⟨i0, hi, hz0, hz1, hz2⟩ := info_parts infoENod
  obtain ⟨ib, hib, hzb0, hzb1, hzb2⟩ := info_parts infoBool
  go_enter Try.func53, Try.ntmps53
  go_wp2_with (first | (at_builtin; refine wpList_append_lab rfl (.tmp 42) (.tmp 44) 84 rfl 53 i0 (Value.pointer none) 1 8 Try.underlying84 hi hz0 hz1 hz2 rfl (by decide) o (L + 1) vt n cs rfl (h1.step ((Step.refl (fun _ => False) w o).alloc _) (by simp)) ⟨w.heap.size, 0, none⟩ 1 1 [Value.pointer none] rfl rfl ?c1 ?c2 (by decide) ?c3 ?c4 ?_) | go_in)
  case c1 => exact new_one _ _ _
  case c2 => intro u hu; simp at hu; subst hu; rfl
  case c3 => unfold maxLen; omega
  case c4 => omega
  intro g cap w1 o1 hr1 hs1
  have sA : Step (fun k => k = L + 1) w o w1 o1 := (allocStep _ w o _).trans hs1
  have k0 := h0.step sA (by omega)
  obtain ⟨d0, d1, d2, d3, hfd⟩ := k0.cells4
  have sB := setStep (fun x => x = L) w1 o1 ⟨p, 1, none⟩ (.slice (some ⟨g, 0, none⟩) (n + 1) cap) k0.2
  have k2 := (h2.step sA (by omega)).step sB (by omega)
  go_wp2_with (first | (at_builtin; refine wpList_append_lab rfl (.tmp 52) (.tmp 53) 85 rfl 4 ib (.bool false) 1 1 Try.underlying85 hib hzb0 hzb1 hzb2 rfl (by decide) o1 (L + 2) vi n (usedL n []) rfl (k2.step (allocStep (fun _ => False) _ o1 _) (by simp)) ⟨w1.heap.size, 0, none⟩ 1 1 [.bool true] rfl rfl ?d1 ?d2 (by decide) ?d3 ?d4 ?_) | go_in)
  case d1 => exact new_one_at (by simp) _ _
  case d2 => intro u hu; simp at hu; subst hu; rfl
  case d3 => unfold maxLen; omega
  case d4 => omega
  intro g2 cap2 w2 o2 hr2 hs2
  have m0 := k0.set 1 (.slice (some ⟨g, 0, none⟩) (n + 1) cap)
  have sC := (allocStep (fun k => k = L + 2) _ o1 _).trans hs2
  have n0 := m0.step sC (by omega)
  obtain ⟨e0, e1, e2, e3, hfe⟩ := Blk.cells4 n0
  have R := Ar.pushed h0 h3 h4 hroom hr1 sA hr2 sC
  clear h0 h1 h2 h3 h4 hr1 hs1 hr2 hs2 m0 n0 k2 sB k0 sA sC
  go_wp2
  go_ret
  exact ⟨ret_int (by omega), o2, R.1, R.2⟩

theorem putFullNod (w : World) (o : Nat → Nat) (L p room n : Nat) (cs : List Value) (free : List Nat) (x : Option Addr) (hfull : n - free.length = room) (h : Ar 87 53 1 w o L p room n cs free) :
    Calls Try.prog 38 #[.pointer (some ⟨p, 0, none⟩), Value.pointer x] w fun e w' => e = .returned (.tuple #[.int .i64 0, .int .i64 20]) ∧ ∃ m, w' = w.drewN m := by
  have hx := h
  obtain ⟨vt, vi, vf, h0, h1, h2, h3, h4⟩ := hx
  obtain ⟨c0, c1, c2, c3, hf⟩ := h0.cells4
  have hle := h4.free_le
  have hn : n ≤ 4096 := Nat.le_trans h4.le h4.room
  clear h0 h1 h2 h3 h4
  have hlen := fun wx hh => lenNod wx o L p room n cs free hh
  rw [hfull] at hlen
  go_enter Try.func38, Try.ntmps38
  go_wp2
  go_quiet ((go_at_call 52; exact Calls.quiet_of (hlen _ h)))
  go_wp2
  go_ret2
  exact ⟨rfl, _, rfl⟩

theorem putPopNod (w : World) (o : Nat → Nat) (L p room n : Nat) (cs : List Value) (fs : List Nat) (k : Nat) (x : Option Addr) (h : Ar 87 53 1 w o L p room n cs (fs ++ [k + 1])) :
    Calls Try.prog 38 #[.pointer (some ⟨p, 0, none⟩), Value.pointer x] w fun e w' => e = .returned (.tuple #[.int .i64 (k + 1 : Nat), .int .i64 0]) ∧ ∃ o', Ar 87 53 1 w' o' L p room n (cs.set k (Value.pointer x)) fs ∧ Step (IL L) w o w' o' := by
  have hx := h
  obtain ⟨vt, vi, vf, h0, h1, h2, h3, h4⟩ := hx
  obtain ⟨c0, c1, c2, c3, hf⟩ := h0.cells4
  have hle := h4.free_le
  have hla := h4.last
  have hnr := h4.le
  have hn : n ≤ 4096 := Nat.le_trans h4.le h4.room
  have hkn : k < n := by omega
  have hrm := h4.room
  have hne : ((((n - (fs ++ [k + 1]).length : Nat) : Int)) == (room : Int)) = false := by simp only [beq_eq_false_iff_ne, ne_eq]; simp only [List.length_append, List.length_singleton] at hle ⊢; omega
  clear h0 h1 h2 h3 h4
  obtain ⟨q, hq⟩ : ∃ q, q = n - (fs ++ [k + 1]).length := ⟨_, rfl⟩
  have hlen := fun wx hh => lenNod wx o L p room n cs (fs ++ [k + 1]) hh
  rw [← hq] at hlen hne
  clear hq
  go_enter Try.func38, Try.ntmps38
  go_wp2
  go_quiet ((go_at_call 52; exact Calls.quiet_of (hlen _ h)))
  go_wp2_with fail
  refine (givePopNod _ o L p room n cs fs k (h.drewN _)).mono ?_
  rintro e w1 ⟨rfl, o1, ha1, hs1⟩
  obtain ⟨g, cap, d1, dk, dfr, hcap, hmax, hset⟩ := ha1.open1 k hkn
  have hlcs : k < cs.length := by have := ha1; obtain ⟨_, _, _, _, hh, _⟩ := this; rw [hh.len]; omega
  rw [List.getElem?_eq_getElem hlcs] at dk
  unfold maxLen at hmax
  have R := hset (Value.pointer x)
  clear hset
  have hs0 : Step (IL L) w o w1 o1 := ((Step.refl (IL L) w o).drewN _).trans hs1
  clear hs1 ha1 h hlen
  go_wp2
  go_ret2
  exact ⟨rfl, o1, R.1, hs0.trans R.2⟩

theorem putPushNod (w : World) (o : Nat → Nat) (L p room n : Nat) (cs : List Value) (x : Option Addr) (hroom : n < room) (h : Ar 87 53 1 w o L p room n cs []) :
    Calls Try.prog 38 #[.pointer (some ⟨p, 0, none⟩), Value.pointer x] w fun e w' => e = .returned (.tuple #[.int .i64 (n + 1 : Nat), .int .i64 0]) ∧ ∃ o', Ar 87 53 1 w' o' L p room (n + 1) (cs ++ [Value.pointer x]) [] ∧ Step (IL L) w o w' o' := by
  have hx := h
  obtain ⟨vt, vi, vf, h0, h1, h2, h3, h4⟩ := hx
  obtain ⟨c0, c1, c2, c3, hf⟩ := h0.cells4
  have hn : n ≤ 4096 := Nat.le_trans h4.le h4.room
  have hrm := h4.room
  have hcl := h1.len
  have hne : (((n : Int)) == (room : Int)) = false := by simp only [beq_eq_false_iff_ne, ne_eq]; omega
  clear h0 h1 h2 h3 h4
  have hlen := fun wx hh => lenNod wx o L p room n cs [] hh
  go_enter Try.func38, Try.ntmps38
  go_wp2
  go_quiet ((go_at_call 52; exact Calls.quiet_of (hlen _ h)))
  go_wp2_with fail
  refine (givePushNod _ o L p room n cs hroom (h.drewN _)).mono ?_
  rintro e w1 ⟨rfl, o1, ha1, hs1⟩
  obtain ⟨g, cap, d1, dk, dfr, hcap, hmax, hset⟩ := ha1.open1 n (by omega)
  have e1 : cs.length = n := by omega
  have dk2 : w1.cell? ⟨g, n, none⟩ = some (Value.pointer none) := dk.trans (by simp [e1])
  unfold maxLen at hmax
  have R := hset (Value.pointer x)
  have e2 : (cs ++ [Value.pointer none]).set n (Value.pointer x) = cs ++ [Value.pointer x] := by simp [← e1]
  rw [e2] at R
  clear hset dk e1 e2
  have hs0 : Step (IL L) w o w1 o1 := ((Step.refl (IL L) w o).drewN _).trans hs1
  clear hs1 ha1 h hlen
  go_wp2
  go_ret2
  exact ⟨rfl, o1, R.1, hs0.trans R.2⟩

theorem getOutNod (w : World) (o : Nat → Nat) (L p room n : Nat) (cs : List Value) (free : List Nat) (x : Int) (hb : hasB n free x = false) (h : Ar 87 53 1 w o L p room n cs free) :
    Calls Try.prog 58 #[.pointer (some ⟨p, 0, none⟩), .int .i64 x] w fun e w' => e = .returned (.tuple #[Value.pointer none, .int .i64 21]) ∧ w' = w := by
  have hc := hasNod w o L p room n cs free x h
  rw [hb] at hc
  clear hb h
  go_enter Try.func58, Try.ntmps58
  go_wp2_with fail
  refine hc.mono ?_
  rintro e w1 ⟨rfl, rfl⟩
  go_wp2
  go_ret2
  exact ⟨rfl, rfl⟩

theorem getInNod (w : World) (o : Nat → Nat) (L p room n : Nat) (cs : List Value) (free : List Nat) (k : Nat) (y : Option Addr) (hk : k < n) (hu : useB free k = true) (hy : cs[k]? = some (Value.pointer y)) (h : Ar 87 53 1 w o L p room n cs free) :
    Calls Try.prog 58 #[.pointer (some ⟨p, 0, none⟩), .int .i64 (k + 1 : Nat)] w fun e w' => e = .returned (.tuple #[Value.pointer y, .int .i64 0]) ∧ w' = w := by
  have hc := hasNod w o L p room n cs free (k + 1 : Nat) h
  have hb : hasB n free (k + 1 : Nat) = true := by simp [hasB, hu]; omega
  rw [hb] at hc
  have hn : n ≤ 4096 := Nat.le_trans h.wf.le h.wf.room
  obtain ⟨g, cap, d1, dk, dfr, hcap, hmax, hset⟩ := h.open1 k hk
  rw [hy] at dk
  unfold maxLen at hmax
  clear hset hb hu hy h
  go_enter Try.func58, Try.ntmps58
  go_wp2_with fail
  refine hc.mono ?_
  rintro e w1 ⟨rfl, rfl⟩
  go_wp2
  go_ret2
  exact ⟨rfl, rfl⟩

theorem dropOutNod (w : World) (o : Nat → Nat) (L p room n : Nat) (cs : List Value) (free : List Nat) (x : Int) (hb : hasB n free x = false) (h : Ar 87 53 1 w o L p room n cs free) :
    Calls Try.prog 47 #[.pointer (some ⟨p, 0, none⟩), .int .i64 x] w fun e w' => e = .returned (.int .i64 21) ∧ w' = w := by
  have hc := hasNod w o L p room n cs free x h
  rw [hb] at hc
  clear hb h
  go_enter Try.func47, Try.ntmps47
  go_wp2_with fail
  refine hc.mono ?_
  rintro e w1 ⟨rfl, rfl⟩
  go_wp2
  go_ret
  exact ⟨rfl, rfl⟩

theorem dropInNod (w : World) (o : Nat → Nat) (L p room n : Nat) (cs : List Value) (free : List Nat) (k : Nat) (hk : k < n) (hu : useB free k = true) (h : Ar 87 53 1 w o L p room n cs free) :
    Calls Try.prog 47 #[.pointer (some ⟨p, 0, none⟩), .int .i64 (k + 1 : Nat)] w fun e w' => e = .returned (.int .i64 0) ∧ ∃ o', Ar 87 53 1 w' o' L p room n (cs.set k (Value.pointer none)) (free ++ [k + 1]) ∧ Step (IL L) w o w' o' := by
  have hc := hasNod w o L p room n cs free (k + 1 : Nat) h
  have hb : hasB n free (k + 1 : Nat) = true := by simp [hasB, hu]; omega
  rw [hb] at hc
  clear hb
  obtain ⟨vt, vi, vf, h0, h1, h2, h3, h4⟩ := h
  have hn : n ≤ 4096 := Nat.le_trans h4.le h4.room
  have hfl := h4.free_le
  obtain ⟨gt, ct, rfl, hgt, hct, hmt, hltt, hcellt, hfrt⟩ := h1.pos (by omega)
  obtain ⟨gi, ci, rfl, hgi, hci, hmi, hlti, hcelli, hfri⟩ := h2.pos (by omega)
  have hx0 := h0
  obtain ⟨c0, c1, c2, c3, hf⟩ := hx0.cells4
  clear hx0
  have hlcs : k < cs.length := by rw [h1.len]; omega
  have hkt := hcellt k (by omega)
  rw [List.getElem?_eq_getElem hlcs] at hkt
  have hki := (hcelli k (by omega)).trans (usedL_get n free k hk)
  have hp : o p = L := h0.2
  have n1 : p ≠ gt := fun e => by rw [e] at hp; omega
  have n2 : p ≠ gi := fun e => by rw [e] at hp; omega
  have n3 : gt ≠ gi := fun e => by rw [e] at hgt; omega
  have n1' := n1.symm
  have n2' := n2.symm
  have n3' := n3.symm
  have s1 := setStep (fun x => x = L + 1) w o ⟨gt, k, none⟩ (Value.pointer none) hgt
  have s2 := setStep (fun x => x = L + 2) (w.setCell ⟨gt, k, none⟩ (Value.pointer none)) o ⟨gi, k, none⟩ (.bool false) hgi
  have k3 := (h3.step s1 (by omega)).step s2 (by omega)
  have k0 := (h0.step s1 (by omega)).step s2 (by omega)
  unfold maxLen at hmt hmi
  obtain ⟨ii, hii, hzi0, hzi1, hzi2⟩ := info_parts infoInt
  clear hcellt hcelli s1 s2 hp hgt hgi
  go_enter Try.func47, Try.ntmps47
  go_wp2_with fail
  refine hc.mono ?_
  rintro e w1 ⟨rfl, rfl⟩
  clear hc
  go_wp2_with (first | (at_builtin; refine wpList_append_lab rfl (.tmp 29) (.tmp 31) 60 rfl 3 ii (.int .i64 0) 1 8 Try.underlying60 hii hzi0 hzi1 hzi2 rfl (by decide) o (L + 3) vf free.length (intsL free) rfl (k3.step (allocStep (fun _ => False) _ o _) (by simp)) ⟨w1.heap.size, 0, none⟩ 1 1 [.int .i64 ((k : Int) + 1)] rfl rfl ?d1 ?d2 (by decide) ?d3 ?d4 ?_) | go_in)
  case d1 => exact new_one_at (by simp) _ _
  case d2 => intro u hu; simp at hu; subst hu; rfl
  case d3 => unfold maxLen; omega
  case d4 => omega
  intro g cap w2 o2 hr hs
  have R := Ar.dropped h0 h1 h2 h3 h4 hk hu hr hs
  have n0 := k0.step ((allocStep (fun x => x = L + 3) _ o _).trans hs) (by omega)
  obtain ⟨e0, e1, e2, e3, hfe⟩ := Blk.cells4 n0
  clear h0 h1 h2 h3 h4 hr hs n0 k0 k3
  go_wp2
  go_ret
  exact ⟨rfl, o2, R.1, R.2⟩

theorem newBadNod (w : World) (x : Int) (hx : x < 0 ∨ 4096 < x) :
    Calls Try.prog 15 #[.int .i64 x] w fun e w' => e = .returned (.tuple #[.pointer none, .int .i64 1]) ∧ w' = w := by
  rcases hx with hx | hx
  · go_enter Try.func15, Try.ntmps15
    go_wp2
    go_ret2
    exact ⟨rfl, rfl⟩
  · have hx0 : ¬ x < 0 := by omega
    go_enter Try.func15, Try.ntmps15
    go_wp2
    go_ret2
    exact ⟨rfl, rfl⟩

theorem newNod (w : World) (o : Nat → Nat) (L r : Nat) (hr : r ≤ 4096) :
    Calls Try.prog 15 #[.int .i64 r] w fun e w' => e = .returned (.tuple #[.pointer (some ⟨w.heap.size, 0, none⟩), .int .i64 0]) ∧ ∃ o', Ar 87 53 1 w' o' L w.heap.size r 0 [] [] ∧ Step (fun _ => False) w o w' o' := by
  have R := @Ar.new 87 53 1 w o L r hr
  have hx0 : ¬ (r : Int) < 0 := by omega
  have hx1 : ¬ (4096 : Int) < (r : Int) := by omega
  go_enter Try.func15, Try.ntmps15
  go_wp2
  go_ret2
  exact ⟨rfl, _, R, newStep _ _ _ _ _⟩

end Go.Proofs.Ythdmajddmajjoaa
