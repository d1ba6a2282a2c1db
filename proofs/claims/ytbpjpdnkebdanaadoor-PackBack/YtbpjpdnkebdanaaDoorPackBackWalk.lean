/- The law PackBack, walked: what was read is what is laid, and a byte less is too short. -/
import Derived.Test.YtbpjpdnkebdanaaDoorAwake
import Derived.Test.YtbpjpdnkebdanaaDoorBack
import Derived.Deep.RegionHeld
namespace Go.Proofs.YtbpjpdnkebdanaaDoor.packBack
open Go.ChangeShapes Go.WideShapes Go.ChangeAt Go.RowKit
set_option linter.unusedVariables false

theorem cut_data (s : ByteArray) (m : Nat) : (s.extract 0 m).data.toList = s.data.toList.take m := by
  simp [ByteArray.data_extract]
theorem cut_size (s : ByteArray) (m : Nat) (h : m ≤ s.size) : (s.extract 0 m).size = m := by
  rw [ByteArray.size_extract]; omega

theorem put_nat (n : Nat) (v : World) (hn : n < 18446744073709551616) :
    Calls Tryd.prog 14 #[.int .u64 n] v fun e w' => e = .returned (.string ⟨(sevs n).toArray⟩) ∧ Below v.heap.size v w' := put_any (n : Int) v (by omega) (by omega)

set_option maxRecDepth 100000 in
theorem bad (s : ByteArray) (w : World) (hT : Tab w) (hs : s.size ≤ maxLen) (h : Hid (tk s.data.toList 0 0 = (0, 0, 10)) ∨ Hid (tk s.data.toList 0 0 = (0, 0, 11))) :
    Calls Tryd.prog 6 #[.string s] w fun e w' => e = .returned (.bool true) ∧ Below w.heap.size w w' := by
  rcases h with h | h
  · go_enter Tryd.func6, Tryd.ntmps6
    go_wp2_with fail
    refine (awake_any w hT).mono ?_
    rintro e w1 ⟨rfl, hb1⟩
    go_wp2_with fail
    refine (take_at s _ hs 0 0 10 h.out).mono ?_
    rintro e w2 ⟨rfl, rfl⟩
    go_wp2
    go_ret
    exact ⟨rfl, hb1⟩
  · go_enter Tryd.func6, Tryd.ntmps6
    go_wp2_with fail
    refine (awake_any w hT).mono ?_
    rintro e w1 ⟨rfl, hb1⟩
    go_wp2_with fail
    refine (take_at s _ hs 0 0 11 h.out).mono ?_
    rintro e w2 ⟨rfl, rfl⟩
    go_wp2
    go_ret
    exact ⟨rfl, hb1⟩

set_option maxRecDepth 100000 in
set_option maxHeartbeats 400000 in
theorem good (s : ByteArray) (w : World) (hT : Tab w) (hs : s.size ≤ maxLen) (n k : Nat) (h : Hid (tk s.data.toList 0 0 = (n, k, 0))) (h1 : 1 ≤ k) (h10 : k ≤ 10) (hk : k ≤ s.size)
    (hn : n < 18446744073709551616) (hb : Hid (sevs (n : Int) = s.data.toList.take k)) (hshort : Hid (tk (s.data.toList.take (k - 1)) 0 0 = (0, 0, 10))) :
    Calls Tryd.prog 6 #[.string s] w fun e w' => e = .returned (.bool true) ∧ Below w.heap.size w w' := by
  have HS : Hid (s.size ≤ maxLen) := hs
  unfold maxLen at hs
  have hq : (sevs (n : Int) == (s.extract 0 k).toList) = true := by
    rw [ByteArray.toList_eq, cut_data, ← hb.out]; simp
  go_enter Tryd.func6, Tryd.ntmps6
  go_wp2_with fail
  refine (awake_any w hT).mono ?_
  rintro e w1 ⟨rfl, hb1⟩
  go_wp2_with fail
  refine (take_at s _ HS.out n k 0 h.out).mono ?_
  rintro e w2 ⟨rfl, rfl⟩
  go_wp2_with fail
  refine (take_at (s.extract 0 (k - 1)) _ (by rw [cut_size _ _ (by omega)]; unfold maxLen; omega) 0 0 10 (by rw [cut_data]; exact hshort.out)).mono ?_
  rintro e w2 ⟨rfl, rfl⟩
  go_wp2_with fail
  go_region_held (fun _ => True) (trivial) ((go_at_call 14; refine (put_nat n _ hn).mono ?_; rintro e w3 ⟨rfl, hb3⟩))
  go_wp2
  go_ret
  exact ⟨rfl, bjoin hb1.drew hb3⟩

theorem walk (s : ByteArray) (w : World) (hT : Tab w) (hs : s.size ≤ maxLen) :
    Calls Tryd.prog 6 #[.string s] w fun e w' => e = .returned (.bool true) ∧ Below w.heap.size w w' := by
  rcases tk_err s.data.toList 0 0 with h | h | h
  · obtain ⟨n, k, f, hr⟩ : ∃ n k f, tk s.data.toList 0 0 = (n, k, f) := ⟨_, _, _, rfl⟩
    rw [hr] at h
    have hf : f = 0 := h
    subst hf
    obtain ⟨b1, b2, b3, b4, b5, b6⟩ := tk_back0 _ n k hr
    exact good s w hT hs n k hr b1 b2 (by simpa using b3) b4 b5 b6
  · exact bad s w hT hs (Or.inl h)
  · exact bad s w hT hs (Or.inr h)
end Go.Proofs.YtbpjpdnkebdanaaDoor.packBack
