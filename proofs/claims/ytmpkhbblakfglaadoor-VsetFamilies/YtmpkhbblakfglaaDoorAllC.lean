/- All of a set: its numbers in a new slice. -/
import Derived.Test.YtmpkhbblakfglaaDoorAllM
import Derived.Test.YtmpkhbblakfglaaDoorArBase
namespace Go.Proofs.YtmpkhbblakfglaaDoor
open Go.ChangeShapes Go.WideShapes Go.ChangeAt Go.RowKit
set_option linter.unusedVariables false

theorem Step.ofBelow {I : Nat → Prop} {w w' : World} (o : Nat → Nat) (h : Below w.heap.size w w') : Step I w o w' o := ⟨h.os, h.tape, h.output, h.size, fun _ _ => rfl, fun k hk _ => h.block k hk⟩
theorem Blk.cell1 {w : World} {o : Nat → Nat} {i b : Nat} {a0 : Value} {t : TypeId} (h : Blk w o i b (.cells #[a0] t (0, 0))) :
    w.cell? ⟨b, 0, none⟩ = some a0 ∧ ∀ j, w.frozen? ⟨b, j, none⟩ = false := by
  refine ⟨?_, fun j => frozen_of_row w b j _ t h.1⟩
  simp [cell_of_row w b _ _ t (0, 0) h.1]
/-- The library's table, under label 0. -/
def TzL (w : World) (o : Nat → Nat) : Prop := Tz w ∧ o 0 = 0
theorem Step.cellAt {I : Nat → Prop} {w w' : World} {o o' : Nat → Nat} (s : Step I w o w' o') {p : Addr} (hp : p.block < w.heap.size) (hi : ¬ I (o p.block)) : w'.cell? p = w.cell? p := World.cell?_of_block (w := w) (s.block p.block hp hi)
theorem Step.frozenAt {I : Nat → Prop} {w w' : World} {o o' : Nat → Nat} (s : Step I w o w' o') {p : Addr} (hp : p.block < w.heap.size) (hi : ¬ I (o p.block)) : w'.frozen? p = w.frozen? p := World.frozen?_of_block (w := w) (s.block p.block hp hi)
theorem TzL.step {I : Nat → Prop} {w w' : World} {o o' : Nat → Nat} (h : TzL w o) (s : Step I w o w' o') (hi : ¬ I 0) : TzL w' o' :=
  ⟨⟨fun j hj => (s.cellAt (p := ⟨0, j, none⟩) h.1.2 (by show ¬ I (o 0); rw [h.2]; exact hi)).trans (h.1.1 j hj), Nat.lt_of_lt_of_le h.1.2 s.size⟩, (s.lab _ h.1.2).trans h.2⟩
theorem next_c (x : Nat) (n : Int) (w : World) (hx : x < top64) (h1 : -9223372036854775808 ≤ n) (h2 : n ≤ 9223372036854775807) (hT : Tz w) :
    Calls Tryd.prog 14 #[sv x, .int .i64 n] w fun e w' => e = .returned (.int .i64 (nx x n)) ∧ Below w.heap.size w w' :=
  next_walk x _ n w hx h1 h2 rfl hT
/-- What is left to do behind number v: all of x is what is there and that. -/
def AllRel (x : Nat) (v : Int) (done : List Nat) : Prop := (v = -1 ∧ done = al x) ∨ ∃ k : Nat, v = k ∧ k < 64 ∧ x.testBit k = true ∧ done ++ els x k = al x
theorem AllRel.first (x : Nat) (hx : x < top64) : AllRel x (nx x 0) [] := by
  rcases nx_spec x 0 hx with ⟨h1, h2⟩ | ⟨k, h1, h2, h3, h4, h5⟩
  · refine .inl ⟨h1, ?_⟩
    unfold al
    rw [els_skip x 0 64 (by omega) (fun i _ _ => h2 i (by omega)), els_top _ _ (by omega)]
  · refine .inr ⟨k, h1, h2, h4, ?_⟩
    unfold al
    rw [els_skip x 0 k (by omega) (fun i _ hi => h5 i (by omega) (by omega)), Nat.zero_add]
    rfl
theorem AllRel.next (x k : Nat) (done : List Nat) (hx : x < top64) (hk : k < 64) (hb : x.testBit k = true) (h : done ++ els x k = al x) : AllRel x (nx x ((k : Int) + 1)) (done ++ [k]) := by
  rw [els_step x k hk, if_pos hb] at h
  rcases nx_spec x ((k : Int) + 1) hx with ⟨h1, h2⟩ | ⟨m, h1, h2, h3, h4, h5⟩
  · refine .inl ⟨h1, ?_⟩
    rw [els_skip x (k + 1) (64 - (k + 1)) (by omega) (fun i _ _ => h2 i (by omega)), els_top _ _ (by omega)] at h
    exact h
  · refine .inr ⟨m, h1, h2, h4, ?_⟩
    rw [els_skip x (k + 1) (m - (k + 1)) (by omega) (fun i _ hi => h5 i (by omega) (by omega)), show k + 1 + (m - (k + 1)) = m by omega] at h
    rw [← h]
    simp
theorem AllRel.len {x k : Nat} {done : List Nat} (h : done ++ els x k = al x) (hk : k < 64) (hb : x.testBit k = true) : done.length + (els x k).length = cd x ∧ 0 < (els x k).length := by
  refine ⟨?_, ?_⟩
  · rw [← al_len, ← h, List.length_append]
  · rw [els_step x k hk, if_pos hb]; simp

set_option maxHeartbeats 4000000 in
theorem all_c (x : Nat) (w : World) (o : Nat → Nat) (lb : Nat) (hx : x < top64) (hT : TzL w o) (hlb : lb ≠ 0) :
    Calls Tryd.prog 10 #[sv x] w fun e w' => ∃ v o', e = .returned v ∧ Row w' o' lb 3 1 v (al x).length (intsL (al x)) ∧ Step (fun k => k = lb) w o w' o' := by
  have s0 := newStep (fun k => k = lb) w o (lb + 1) (.cells #[.int .u64 (x : Nat)] 42)
  have B0 : Blk (w.alloc (.cells #[.int .u64 (x : Nat)] 42)) (newLab w o (lb + 1)) (lb + 1) w.heap.size (.cells #[.int .u64 (x : Nat)] 42 (0, 0)) := ⟨heap_alloc_new w _, newLab_new (Nat.le_refl _)⟩
  have T1 := hT.step s0 (by omega)
  obtain ⟨b1, hb1⟩ : ∃ b, b = w.heap.size := ⟨_, rfl⟩
  have HB1 : Hid (b1 = w.heap.size) := hb1
  rw [← hb1] at B0
  generalize newLab w o (lb + 1) = o1 at s0 B0 T1
  obtain ⟨w1, hw1⟩ : ∃ w1, w1 = w.alloc (.cells #[.int .u64 (x : Nat)] 42) := ⟨_, rfl⟩
  rw [← hw1] at s0 B0 T1
  have c0 : w1.cell? ⟨b1, 0, none⟩ = some (.int .u64 (x : Nat)) := B0.cell1.1
  clear hb1
  go_enter Tryd.func10, Tryd.ntmps10
  go_wp2_with fail
  rw [← hw1, ← HB1.out]
  clear hw1 HB1
  refine (next_c x 0 _ hx (by omega) (by omega) T1.1).mono ?_
  rintro e w2 ⟨rfl, hb2⟩
  have sB : Step (fun k => k = lb) w1 o1 w2 o1 := Step.ofBelow o1 hb2
  have B2 := B0.step sB (by omega)
  have T2 := T1.step sB (by omega)
  have S2 := s0.trans sB
  have J0 := AllRel.first x hx
  generalize nx x 0 = v0 at *
  clear hb2 sB T1 B0 c0 s0
  go_wp2_with fail
  go_loopw [3, 4] (fun v3 v4 wr => ∃ (done : List Nat) (v : Int) (o' : Nat → Nat), v4 = .int .i64 v ∧ AllRel x v done ∧ Row wr o' lb 3 1 v3 done.length (intsL done) ∧ Blk wr o' (lb + 1) b1 (.cells #[.int .u64 (x : Nat)] 42 (0, 0)) ∧ TzL wr o' ∧ Step (fun k => k = lb) w o wr o') (fun _ v4 _ => if intOf v4 < 0 then 0 else 65 - (intOf v4).toNat)
  case atStart => exact ⟨[], v0, o1, rfl, J0, Row.nil _ _ _ _ _, B2, T2, S2⟩
  case round =>
    obtain ⟨done, v, o', rfl, hr, hR, hB, hTz, hS⟩ := hrel
    clear J0 B2 T2 S2
    rcases hr with ⟨rfl, rfl⟩ | ⟨k, rfl, hk, hb, hd⟩
    · go_wp2
      go_ret
      exact ⟨_, o', rfl, hR, hS⟩
    · have hc := hB.cell1.1
      have hln := AllRel.len hd hk hb
      have hcd := cd_le x
      obtain ⟨ii, hii, hzi0, hzi1, hzi2⟩ := info_parts infoInt
      go_wp2_with (first | (at_builtin; refine wpList_append_lab rfl (.tmp 13) (.tmp 15) 35 rfl 3 ii (.int .i64 0) 1 8 Tryd.underlying35 hii hzi0 hzi1 hzi2 rfl (by decide) o' lb _ done.length (intsL done) rfl (hR.step (allocStep (fun _ => False) _ o' _) (by simp)) ⟨wr.heap.size, 0, none⟩ 1 1 [.int .i64 (k : Nat)] rfl rfl ?c1 ?c2 (by decide) ?c3 ?c4 ?_) | go_in)
      case c1 => exact new_one _ _ _
      case c2 => intro u hu; simp at hu; subst hu; rfl
      case c3 => unfold maxLen; omega
      case c4 => omega
      intro g cap w3 o3 R3 s3'
      have s3 : Step (fun k => k = lb) wr o' w3 o3 := (allocStep _ wr o' _).trans s3'
      have B3 := hB.step s3 (by omega)
      have T3 := hTz.step s3 (by omega)
      have S3 := hS.trans s3
      have c3 := B3.cell1.1
      clear s3' hR hB hTz hS hc s3
      go_wp2_with fail
      refine (next_c x ((k : Int) + 1) _ hx (by omega) (by omega) T3.1).mono ?_
      rintro e w4 ⟨rfl, hb4⟩
      have s4 : Step (fun k => k = lb) w3 o3 w4 o3 := Step.ofBelow o3 hb4
      have B4 := B3.step s4 (by omega)
      have T4 := T3.step s4 (by omega)
      have S4 := S3.trans s4
      have R4 : Row w4 o3 lb 3 1 (.slice (some ⟨g, 0, none⟩) (done.length + 1) cap) (done ++ [k]).length (intsL (done ++ [k])) := by
        have := R3.step (Step.ofBelow (I := fun _ => False) o3 hb4) (by simp)
        simpa [intsL] using this
      have RL := AllRel.next x k done hx hk hb hd
      have hms : nx x ((k : Int) + 1) < 0 ∨ (k : Int) < nx x ((k : Int) + 1) := by
        rcases nx_spec x ((k : Int) + 1) hx with ⟨h1, _⟩ | ⟨m, h1, _, h3, _⟩ <;> omega
      generalize nx x ((k : Int) + 1) = v' at *
      clear s4 B3 T3 S3 R3 hb4 c3
      go_wp2
      go_roundw
      case rel => (try ((repeat apply Exists.intro); refine ⟨?_, rfl⟩)); exact ⟨done ++ [k], v', o3, rfl, RL, R4, B4, T4, S4⟩
      case measure =>
        show (if v' < 0 then 0 else 65 - v'.toNat) < (if (k : Int) < 0 then 0 else 65 - ((k : Int)).toNat)
        split <;> split <;> omega
end Go.Proofs.YtmpkhbblakfglaaDoor
