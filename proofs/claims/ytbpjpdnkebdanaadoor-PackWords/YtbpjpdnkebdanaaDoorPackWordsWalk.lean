/- The law PackWords, walked: words of fields are the document's, and lead back. -/
import Derived.Test.YtbpjpdnkebdanaaDoorAwake
import Derived.Test.YtbpjpdnkebdanaaDoorRefs
namespace Go.Proofs.YtbpjpdnkebdanaaDoor.packWords
open Go.ChangeShapes Go.WideShapes Go.ChangeAt Go.RowKit
set_option linter.unusedVariables false

/-- The fields of a word, laid again. -/
theorem again (u : Int) (w : World) (hT : Tab w) (h1 : 0 ≤ u) (h2 : u < 18446744073709551616) :
    Calls Tryd.prog 18 #[.int .i64 (u / 72057594037927936), .int .i64 (u / 268435456 % 268435456), .int .i64 (u % 268435456)] w fun e w' => e = .returned (.tuple #[.int .u64 u, .int .i64 0]) ∧ w' = w :=
  (word_yes _ _ _ w hT (by omega) (by omega) (by omega) (by omega) (by omega) (by omega)).mono fun e w' ⟨g1, g2⟩ => ⟨g1.trans (ret_two (by omega)), g2⟩
theorem parts_of (o a b : Int) (w : World) (hT : Tab w) (h1 : 0 ≤ o) (h2 : o ≤ 255) (h3 : 0 ≤ a) (h4 : a ≤ 268435455) (h5 : 0 ≤ b) (h6 : b ≤ 268435455) :
    Calls Tryd.prog 20 #[.int .u64 ((o * 268435456 + a) * 268435456 + b)] w fun e w' => e = .returned (.tuple #[.int .i64 o, .int .i64 a, .int .i64 b]) ∧ Below w.heap.size w w' :=
  (parts_any _ w hT (by omega) (by omega)).mono fun e w' ⟨g1, g2⟩ => ⟨g1.trans (by
    rw [show ((o * 268435456 + a) * 268435456 + b) / 72057594037927936 = o by omega, show ((o * 268435456 + a) * 268435456 + b) / 268435456 % 268435456 = a by omega,
      show ((o * 268435456 + a) * 268435456 + b) % 268435456 = b by omega]), g2⟩
theorem parts_0 (w : World) (hT : Tab w) :
    Calls Tryd.prog 20 #[.int .u64 0] w fun e w' => e = .returned (.tuple #[.int .i64 0, .int .i64 0, .int .i64 0]) ∧ Below w.heap.size w w' :=
  (parts_any 0 w hT (by omega) (by omega)).mono fun e w' ⟨g1, g2⟩ => ⟨g1, g2⟩

set_option maxRecDepth 100000 in
set_option maxHeartbeats 400000 in
theorem yes (o a b u : Int) (w : World) (hT : Tab w) (h1 : 0 ≤ o) (h2 : o ≤ 255) (h3 : 0 ≤ a) (h4 : a ≤ 268435455) (h5 : 0 ≤ b) (h6 : b ≤ 268435455) (g1 : 0 ≤ u) (g2 : u < 18446744073709551616) :
    Calls Tryd.prog 7 #[.int .i64 o, .int .i64 a, .int .i64 b, .int .u64 u] w fun e w' => e = .returned (.bool true) ∧ Below w.heap.size w w' := by
  go_enter Tryd.func7, Tryd.ntmps7
  go_wp2_with fail
  refine (awake_any w hT).mono ?_
  rintro e w1 ⟨rfl, hb1⟩
  have hT1 := hT.below hb1
  go_wp2_with fail
  refine (word_yes o a b w1 hT1 h1 h2 h3 h4 h5 h6).mono ?_
  rintro e w2 ⟨rfl, rfl⟩
  go_wp2_with fail
  refine (rword_yes o a b _ h1 h2 h3 h4 h5 h6).mono ?_
  rintro e w2 ⟨rfl, rfl⟩
  go_wp2_with fail
  refine (parts_any u _ hT1 g1 g2).mono ?_
  rintro e w3 ⟨rfl, hb3⟩
  have hT3 := hT1.below hb3
  go_wp2_with fail
  refine (rparts_any u w3 g1 g2).mono ?_
  rintro e w4 ⟨rfl, rfl⟩
  go_wp2_with fail
  refine (again u _ hT3 g1 g2).mono ?_
  rintro e w4 ⟨rfl, rfl⟩
  go_wp2_with fail
  refine (parts_of o a b _ hT3 h1 h2 h3 h4 h5 h6).mono ?_
  rintro e w5 ⟨rfl, hb5⟩
  go_wp2
  go_ret
  exact ⟨ret_bool (by simp), bjoin (bjoin hb1 hb3) hb5⟩
set_option maxRecDepth 100000 in
set_option maxHeartbeats 400000 in
theorem no (o a b u : Int) (w : World) (hT : Tab w) (o1 : -9223372036854775808 ≤ o) (o2 : o ≤ 9223372036854775807) (a1 : -9223372036854775808 ≤ a) (a2 : a ≤ 9223372036854775807)
    (b1 : -9223372036854775808 ≤ b) (b2 : b ≤ 9223372036854775807) (h : Hid (¬ (0 ≤ o ∧ o ≤ 255 ∧ 0 ≤ a ∧ a ≤ 268435455 ∧ 0 ≤ b ∧ b ≤ 268435455))) (g1 : 0 ≤ u) (g2 : u < 18446744073709551616) :
    Calls Tryd.prog 7 #[.int .i64 o, .int .i64 a, .int .i64 b, .int .u64 u] w fun e w' => e = .returned (.bool true) ∧ Below w.heap.size w w' := by
  go_enter Tryd.func7, Tryd.ntmps7
  go_wp2_with fail
  refine (awake_any w hT).mono ?_
  rintro e w1 ⟨rfl, hb1⟩
  have hT1 := hT.below hb1
  go_wp2_with fail
  refine (word_no o a b w1 hT1 o1 o2 a1 a2 b1 b2 h.out).mono ?_
  rintro e w2 ⟨rfl, rfl⟩
  go_wp2_with fail
  refine (rword_no o a b _ o1 o2 a1 a2 b1 b2 h.out).mono ?_
  rintro e w2 ⟨rfl, rfl⟩
  go_wp2_with fail
  refine (parts_any u _ hT1 g1 g2).mono ?_
  rintro e w3 ⟨rfl, hb3⟩
  have hT3 := hT1.below hb3
  go_wp2_with fail
  refine (rparts_any u w3 g1 g2).mono ?_
  rintro e w4 ⟨rfl, rfl⟩
  go_wp2_with fail
  refine (again u _ hT3 g1 g2).mono ?_
  rintro e w4 ⟨rfl, rfl⟩
  go_wp2_with fail
  refine (parts_0 _ hT3).mono ?_
  rintro e w5 ⟨rfl, hb5⟩
  go_wp2
  go_ret
  exact ⟨ret_bool (by simp), bjoin (bjoin hb1 hb3) hb5⟩

theorem walk (o a b u : Int) (w : World) (hT : Tab w) (o1 : -9223372036854775808 ≤ o) (o2 : o ≤ 9223372036854775807) (a1 : -9223372036854775808 ≤ a) (a2 : a ≤ 9223372036854775807)
    (b1 : -9223372036854775808 ≤ b) (b2 : b ≤ 9223372036854775807) (g1 : 0 ≤ u) (g2 : u < 18446744073709551616) :
    Calls Tryd.prog 7 #[.int .i64 o, .int .i64 a, .int .i64 b, .int .u64 u] w fun e w' => e = .returned (.bool true) ∧ Below w.heap.size w w' := by
  by_cases h : 0 ≤ o ∧ o ≤ 255 ∧ 0 ≤ a ∧ a ≤ 268435455 ∧ 0 ≤ b ∧ b ≤ 268435455
  · exact yes o a b u w hT h.1 h.2.1 h.2.2.1 h.2.2.2.1 h.2.2.2.2.1 h.2.2.2.2.2 g1 g2
  · exact no o a b u w hT o1 o2 a1 a2 b1 b2 h g1 g2
end Go.Proofs.YtbpjpdnkebdanaaDoor.packWords
