/- The first calls of each law of package pack answer as they must. -/
import Derived.Test.YtbpjpdnkebdanabDoorWords
import Derived.Test.YtbpjpdnkebdanabDoorTake
import Derived.Test.YtbpjpdnkebdanabDoorPut
namespace Go.Proofs.YtbpjpdnkebdanabDoor
open Go.ChangeShapes Go.WideShapes Go.ChangeAt Go.RowKit
set_option linter.unusedVariables false

theorem word_312 (w : World) (hT : Tab w) :
    Calls Tryd.prog 10 #[.int .i64 3, .int .i64 1, .int .i64 2] w fun e w' => e = .returned (.tuple #[.int .u64 216172782382219266, .int .i64 0]) ∧ w' = w :=
  (word_yes 3 1 2 w hT (by decide) (by decide) (by decide) (by decide) (by decide) (by decide)).mono fun e w' ⟨h1, h2⟩ => ⟨h1, h2⟩
theorem parts_312 (w : World) (hT : Tab w) :
    Calls Tryd.prog 11 #[.int .u64 216172782382219266] w fun e w' => e = .returned (.tuple #[.int .i64 3, .int .i64 1, .int .i64 2]) ∧ Below w.heap.size w w' :=
  (parts_any 216172782382219266 w hT (by decide) (by decide)).mono fun e w' ⟨h1, h2⟩ => ⟨h1, h2⟩
theorem tk_300 : tk [172, 2, 7] 0 0 = (300, 2, 0) := by decide
theorem take_300 (w : World) :
    Calls Tryd.prog 9 #[.string ⟨#[172, 2, 7]⟩] w fun e w' => e = .returned (.tuple #[.int .u64 300, .int .i64 2, .int .i64 0]) ∧ w' = w :=
  (take_any ⟨#[172, 2, 7]⟩ w (by unfold maxLen; decide)).mono fun e w' ⟨h1, h2⟩ => ⟨h1.trans (congrArg (fun r => Ending.returned (tkR r)) tk_300), h2⟩
theorem zig_3 (w : World) : Calls Tryd.prog 12 #[.int .i64 (-3)] w fun e w' => e = .returned (.int .u64 5) ∧ w' = w :=
  (zig_any (-3) w (by decide) (by decide)).mono fun e w' ⟨h1, h2⟩ => ⟨h1, h2⟩
theorem zag_6 (w : World) : Calls Tryd.prog 13 #[.int .u64 6] w fun e w' => e = .returned (.int .i64 3) ∧ w' = w :=
  (zag_any 6 w (by decide) (by decide)).mono fun e w' ⟨h1, h2⟩ => ⟨h1, h2⟩
theorem put_300 (w : World) : Calls Tryd.prog 8 #[.int .u64 300] w fun e w' => e = .returned (.string ⟨#[172, 2]⟩) ∧ Below w.heap.size w w' :=
  (put_any 300 w (by decide) (by decide)).mono fun e w' ⟨h1, h2⟩ => ⟨h1, h2⟩
theorem mx_one : mx 0 (zg (-1)) = 11400714820970677676 := by decide +kernel
theorem mix_1 (w : World) : Calls Tryd.prog 7 #[.int .u64 0, .int .i64 (-1)] w fun e w' => e = .returned (.int .u64 11400714820970677676) ∧ w' = w :=
  (mix_any 0 (-1) w (by decide) (by decide) (by decide) (by decide)).mono fun e w' ⟨h1, h2⟩ => ⟨h1.trans (ret_int mx_one), h2⟩

set_option maxRecDepth 100000 in
set_option maxHeartbeats 400000 in
theorem awake_any (w : World) (hT : Tab w) :
    Calls Tryd.prog 6 #[] w fun e w' => e = .returned (.bool true) ∧ Below w.heap.size w w' := by
  go_enter Tryd.func6, Tryd.ntmps6
  go_wp2_with fail
  refine (word_312 w hT).mono ?_
  rintro e w1 ⟨rfl, rfl⟩
  go_wp2_with fail
  refine (parts_312 _ hT).mono ?_
  rintro e w2 ⟨rfl, hb2⟩
  go_wp2_with fail
  refine (take_300 _).mono ?_
  rintro e w3 ⟨rfl, rfl⟩
  go_wp2_with fail
  refine (zig_3 _).mono ?_
  rintro e w3 ⟨rfl, rfl⟩
  go_wp2_with fail
  refine (zag_6 _).mono ?_
  rintro e w3 ⟨rfl, rfl⟩
  go_wp2_with fail
  refine (put_300 _).mono ?_
  rintro e w4 ⟨rfl, hb4⟩
  go_wp2_with fail
  refine (mix_1 _).mono ?_
  rintro e w5 ⟨rfl, rfl⟩
  go_wp2
  go_ret
  exact ⟨rfl, bjoin hb2 hb4⟩

end Go.Proofs.YtbpjpdnkebdanabDoor
