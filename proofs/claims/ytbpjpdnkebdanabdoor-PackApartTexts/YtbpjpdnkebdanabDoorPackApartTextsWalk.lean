/- The law PackApartTexts, walked: neither of two unlike numbers' bytes begins the other's; laid one behind the other they are read one by one. -/
import Derived.Test.YtbpjpdnkebdanabDoorAwake
namespace Go.Proofs.YtbpjpdnkebdanabDoor.packApartTexts
open Go.ChangeShapes Go.WideShapes Go.ChangeAt Go.RowKit
set_option linter.unusedVariables false

theorem apart (u v : Int) (h1 : 0 ≤ u) (h2 : u < 18446744073709551616) (g1 : 0 ≤ v) (g2 : v < 18446744073709551616) (h : (sevs v).take (sevs u).length = sevs u) : u = v := by
  have e : sevs v = sevs u ++ (sevs v).drop (sevs u).length := by
    have := List.take_append_drop (sevs u).length (sevs v)
    rw [h] at this
    exact this.symm
  have a := tk_sevs v [] g1 g2
  rw [List.append_nil, e, tk_sevs u _ h1 h2] at a
  simp only [Prod.mk.injEq] at a
  omega

theorem rest_data (l m : List UInt8) : (((⟨l.toArray⟩ : ByteArray) ++ (⟨m.toArray⟩ : ByteArray)).extract l.length (l.length + m.length)).data.toList = m := by
  simp [ByteArray.data_extract, ByteArray.data_append]
theorem rest_size (l m : List UInt8) : (((⟨l.toArray⟩ : ByteArray) ++ (⟨m.toArray⟩ : ByteArray)).extract l.length (l.length + m.length)).size = m.length := by
  rw [ByteArray.size_extract, size_append]
  show min (l.length + m.length) (l.length + m.length) - l.length = m.length
  omega
theorem front_data (l : List UInt8) (n : Nat) : ((⟨l.toArray⟩ : ByteArray).extract 0 n).toList = l.take n := by
  rw [ByteArray.toList_eq]
  simp [ByteArray.data_extract]

theorem take_rest (u v : Int) (w : World) (h1 : 0 ≤ v) (h2 : v < 18446744073709551616) :
    Calls Tryd.prog 9 #[.string (((⟨(sevs u).toArray⟩ : ByteArray) ++ (⟨(sevs v).toArray⟩ : ByteArray)).extract (sevs u).length ((sevs u).length + (sevs v).length))] w
      fun e w' => e = .returned (.tuple #[.int .u64 v, .int .i64 (sevs v).length, .int .i64 0]) ∧ w' = w :=
  (take_at _ w (by have := sevs_len v; rw [rest_size]; unfold maxLen; omega) v.toNat (sevs v).length 0 (by
    have h := tk_sevs v [] h1 h2
    rw [List.append_nil] at h
    rw [rest_data, h])).mono fun e w' ⟨g1, g2⟩ => ⟨by rw [g1, Int.toNat_of_nonneg h1]; rfl, g2⟩

set_option maxRecDepth 100000 in
set_option maxHeartbeats 400000 in
theorem same (u : Int) (w : World) (hT : Tab w) (h1 : 0 ≤ u) (h2 : u < 18446744073709551616) :
    Calls Tryd.prog 5 #[.int .u64 u, .int .u64 u] w fun e w' => e = .returned (.bool true) ∧ Below w.heap.size w w' := by
  have hl := sevs_len u
  have hq : (((⟨(sevs u).toArray⟩ : ByteArray).extract 0 (sevs u).length).toList == sevs u) = true := by rw [front_data, List.take_length]; simp
  go_enter Tryd.func5, Tryd.ntmps5
  go_wp2_with fail
  refine (awake_any w hT).mono ?_
  rintro e w1 ⟨rfl, hb1⟩
  go_wp2_with fail
  refine (put_any u _ h1 h2).mono ?_
  rintro e w2 ⟨rfl, hb2⟩
  go_wp2_with fail
  refine (put_any u _ h1 h2).mono ?_
  rintro e w3 ⟨rfl, hb3⟩
  go_wp2_with fail
  refine (take_put u _ _ h1 h2 (by show (sevs u).length ≤ _; omega)).mono ?_
  rintro e w4 ⟨rfl, rfl⟩
  go_wp2_with fail
  refine (take_rest u u _ h1 h2).mono ?_
  rintro e w4 ⟨rfl, rfl⟩
  go_wp2
  go_ret
  exact ⟨ret_bool (by simp), bjoin (bjoin hb1 hb2) hb3⟩
set_option maxRecDepth 100000 in
set_option maxHeartbeats 400000 in
theorem shorter (u v : Int) (w : World) (hT : Tab w) (h1 : 0 ≤ u) (h2 : u < 18446744073709551616) (g1 : 0 ≤ v) (g2 : v < 18446744073709551616) (hne : u ≠ v) (hl : (sevs u).length ≤ (sevs v).length) :
    Calls Tryd.prog 5 #[.int .u64 u, .int .u64 v] w fun e w' => e = .returned (.bool true) ∧ Below w.heap.size w w' := by
  have hv := sevs_len v
  have hu := sevs_len u
  have hq : (((⟨(sevs v).toArray⟩ : ByteArray).extract 0 (sevs u).length).toList == sevs u) = false := by
    rw [front_data]; exact beq_false_of_ne fun c => hne (apart u v h1 h2 g1 g2 c)
  have hz : (u == v) = false := beq_false_of_ne hne
  clear hne
  go_enter Tryd.func5, Tryd.ntmps5
  go_wp2_with fail
  refine (awake_any w hT).mono ?_
  rintro e w1 ⟨rfl, hb1⟩
  go_wp2_with fail
  refine (put_any u _ h1 h2).mono ?_
  rintro e w2 ⟨rfl, hb2⟩
  go_wp2_with fail
  refine (put_any v _ g1 g2).mono ?_
  rintro e w3 ⟨rfl, hb3⟩
  go_wp2_with fail
  refine (take_put u _ _ h1 h2 (by show (sevs v).length ≤ _; omega)).mono ?_
  rintro e w4 ⟨rfl, rfl⟩
  go_wp2_with fail
  refine (take_rest u v _ g1 g2).mono ?_
  rintro e w4 ⟨rfl, rfl⟩
  go_wp2
  go_ret
  exact ⟨ret_bool (by simp), bjoin (bjoin hb1 hb2) hb3⟩
set_option maxRecDepth 100000 in
set_option maxHeartbeats 400000 in
theorem longer (u v : Int) (w : World) (hT : Tab w) (h1 : 0 ≤ u) (h2 : u < 18446744073709551616) (g1 : 0 ≤ v) (g2 : v < 18446744073709551616) (hne : u ≠ v) (hl : (sevs v).length < (sevs u).length) :
    Calls Tryd.prog 5 #[.int .u64 u, .int .u64 v] w fun e w' => e = .returned (.bool true) ∧ Below w.heap.size w w' := by
  have hv := sevs_len v
  have hu := sevs_len u
  have hd : decide (((sevs u).length : Int) ≤ (sevs v).length) = false := by simp; omega
  have hz : (u == v) = false := beq_false_of_ne hne
  clear hne
  go_enter Tryd.func5, Tryd.ntmps5
  go_wp2_with fail
  refine (awake_any w hT).mono ?_
  rintro e w1 ⟨rfl, hb1⟩
  go_wp2_with fail
  refine (put_any u _ h1 h2).mono ?_
  rintro e w2 ⟨rfl, hb2⟩
  go_wp2_with fail
  refine (put_any v _ g1 g2).mono ?_
  rintro e w3 ⟨rfl, hb3⟩
  go_wp2_with fail
  refine (take_put u _ _ h1 h2 (by show (sevs v).length ≤ _; omega)).mono ?_
  rintro e w4 ⟨rfl, rfl⟩
  go_wp2_with fail
  refine (take_rest u v _ g1 g2).mono ?_
  rintro e w4 ⟨rfl, rfl⟩
  go_wp2
  go_ret
  exact ⟨ret_bool (by simp), bjoin (bjoin hb1 hb2) hb3⟩

theorem walk (u v : Int) (w : World) (hT : Tab w) (h1 : 0 ≤ u) (h2 : u < 18446744073709551616) (g1 : 0 ≤ v) (g2 : v < 18446744073709551616) :
    Calls Tryd.prog 5 #[.int .u64 u, .int .u64 v] w fun e w' => e = .returned (.bool true) ∧ Below w.heap.size w w' := by
  by_cases e : u = v
  · subst e; exact same u w hT h1 h2
  · by_cases l : (sevs u).length ≤ (sevs v).length
    · exact shorter u v w hT h1 h2 g1 g2 e l
    · exact longer u v w hT h1 h2 g1 g2 e (by omega)
end Go.Proofs.YtbpjpdnkebdanabDoor.packApartTexts
