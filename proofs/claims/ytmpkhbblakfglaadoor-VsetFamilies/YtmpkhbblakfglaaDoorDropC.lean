/- Drop: a name taken away. -/
import Derived.Test.YtmpkhbblakfglaaDoorFamC
namespace Go.Proofs.YtmpkhbblakfglaaDoor
open Go.ChangeShapes Go.WideShapes Go.ChangeAt Go.RowKit Go.Maps
set_option linter.unusedVariables false

theorem drop_no (w : World) (o : Nat → Nat) (L p m : Nat) (F : ByteArray → Option Nat) (s : ByteArray) (h : Fam w o L p m F) (hs : s.size ≤ maxLen) (hf : (F s).isSome = false) :
    Calls Tryd.prog 16 #[.pointer (some ⟨p, 0, none⟩), .string s] w fun e w' => e = .returned (.int .i64 93) ∧ Below w.heap.size w w' := by
  go_enter Tryd.func16, Tryd.ntmps16
  go_wp2_with fail
  refine (has9 _ o L p m F s h hs).mono ?_
  rw [hf]
  rintro e w2 ⟨rfl, hb2⟩
  go_wp2
  go_ret
  exact ⟨rfl, hb2⟩
theorem drop_ok (w : World) (o : Nat → Nat) (L p m : Nat) (F : ByteArray → Option Nat) (s : ByteArray) (h : Fam w o L p m F) (hs : s.size ≤ maxLen) (hf : (F s).isSome = true) :
    Calls Tryd.prog 16 #[.pointer (some ⟨p, 0, none⟩), .string s] w fun e w' => e = .returned (.int .i64 0) ∧ Fam w' o L p (m - 1) (updN F s none) ∧ Step (fun k => k = L + 1) w o w' o := by
  go_enter Tryd.func16, Tryd.ntmps16
  go_wp2_with fail
  refine (has9 _ o L p m F s h hs).mono ?_
  rw [hf]
  rintro e w2 ⟨rfl, hb2⟩
  have s2 : Step (fun k => k = L + 1) w o w2 o := Step.ofBelow o hb2
  obtain ⟨bm, hB, hM⟩ := h.step (Step.ofBelow (I := fun _ => False) o hb2) id id
  have c0 := hB.cell1.1
  obtain ⟨w3, hdel, M3, s3⟩ := hM.del hs hf 0
  have RR : Fam w3 o L p (m - 1) (updN F s none) ∧ Step (fun k => k = L + 1) w o w3 o := ⟨⟨bm, hB.step s3 (by omega), M3⟩, s2.trans s3⟩
  clear s2 M3 s3 hM hB h hf hb2
  go_wp2
  go_ret
  exact ⟨rfl, RR⟩
end Go.Proofs.YtmpkhbblakfglaaDoor
