/- What the document's own Take answers, for every text. -/
import Derived.Test.YtbpjpdnkebdanaaDoorTake
namespace Go.Proofs.YtbpjpdnkebdanaaDoor
open Go.ChangeShapes Go.WideShapes Go.ChangeAt Go.RowKit
set_option linter.unusedVariables false

set_option maxRecDepth 100000 in
set_option maxHeartbeats 400000 in
theorem rtake_any (s : ByteArray) (w : World) (hs : s.size ≤ maxLen) :
    Calls Tryd.prog 17 #[.string s] w fun e w' => e = .returned (tkR (tk s.data.toList 0 0)) ∧ w' = w := by
  unfold maxLen at hs
  go_enter Tryd.func17, Tryd.ntmps17
  go_wp2
  go_loop [5, 6, 7] (fun u n i => ∃ k acc unit : Nat, k ≤ s.size ∧ k ≤ 9 ∧ i = .int .i64 ((k : Int) + 1) ∧ u = .int .u64 acc ∧ n = .int .u64 unit ∧ Hid (unit = 128 ^ k) ∧ Hid (acc < 128 ^ k) ∧ Hid (tk (s.data.toList.drop k) k acc = tk s.data.toList 0 0)) (fun _ _ i => s.size + 1 - (intOf i).toNat)
  case atStart => exact ⟨0, 0, 1, Nat.zero_le _, by omega, rfl, rfl, rfl, rfl, show 0 < 128 ^ 0 by decide, rfl⟩
  case round =>
    obtain ⟨k, acc, unit, hk, hk9, rfl, rfl, rfl, HU, HA, HR⟩ := hrel
    by_cases hlt : k < s.size
    · have HD : Hid (s.data.toList.drop k = s[k] :: s.data.toList.drop (k + 1)) := drop_cons s k hlt
      have HB : Hid (s[k].toNat < 256) := UInt8.toNat_lt _
      go_wp2
      · have HR' := HR.out
        rw [HD.out, tkF _ _ _ _ (by omega) (by omega)] at HR'
        go_ret3
        rw [← HR']
        exact ⟨rfl, rfl⟩
      · have HR' := HR.out
        rw [HD.out, tkZ _ _ _ _ (by omega) (by omega)] at HR'
        go_ret3
        rw [← HR']
        exact ⟨rfl, rfl⟩
      · have HR' := HR.out
        rw [HD.out, tkE _ _ _ _ (by omega) (by omega) (by omega)] at HR'
        go_ret3
        rw [← HR']
        have hm : s[k].toNat % 128 = s[k].toNat := by omega
        have hd := rdigit_eq k acc unit s[k].toNat hk9 HU.out HA.out (by omega)
        rw [hm] at hd
        exact ⟨ret_take hd (by omega), rfl⟩
      · have HR' := HR.out
        rw [HD.out, tkM _ _ _ _ (by omega) (by omega)] at HR'
        have hd := rdigit_eq k acc unit s[k].toNat hk9 HU.out HA.out (by omega)
        have hu := runit_eq k unit (by omega) HU.out
        have ha := digit_acc k acc s[k].toNat HA.out
        go_round
        case rel => exact ⟨k + 1, acc + s[k].toNat % 128 * 128 ^ k, 128 ^ (k + 1), by omega, by omega, by go_num, by rw [hd], by rw [hu], rfl, ha, HR'⟩
        case measure => simp [intOf]; omega
      · have HR' := HR.out
        rw [HD.out, tkZ _ _ _ _ (by omega) (by omega)] at HR'
        go_ret3
        rw [← HR']
        exact ⟨rfl, rfl⟩
      · have HR' := HR.out
        rw [HD.out, tkE _ _ _ _ (by omega) (by omega) (by omega)] at HR'
        go_ret3
        rw [← HR']
        have hd := rdigit_zero k acc hk9 HA.out
        have hz : s[k].toNat = 0 := by omega
        have e : acc + 0 * 128 ^ k = acc + s[k].toNat * 128 ^ k := by rw [hz]
        rw [e] at hd
        exact ⟨ret_take hd (by omega), rfl⟩
      · have HR' := HR.out
        rw [HD.out, tkE _ _ _ _ (by omega) (by omega) (by omega)] at HR'
        go_ret3
        rw [← HR']
        have hm : s[k].toNat % 128 = s[k].toNat := by omega
        have hd := rdigit_eq k acc unit s[k].toNat hk9 HU.out HA.out (by omega)
        rw [hm] at hd
        exact ⟨ret_take hd (by omega), rfl⟩
    · have HR' := HR.out
      rw [List.drop_of_length_le (by simp; omega), tk] at HR'
      have HQ : Hid ((0, 0, 10) = tk s.data.toList 0 0) := HR'
      clear HR'
      go_wp2
      go_ret3
      rw [← HQ.out]
      exact ⟨rfl, rfl⟩

theorem rtake_at (s : ByteArray) (w : World) (hs : s.size ≤ maxLen) (n k f : Nat) (h : tk s.data.toList 0 0 = (n, k, f)) :
    Calls Tryd.prog 17 #[.string s] w fun e w' => e = .returned (.tuple #[.int .u64 n, .int .i64 k, .int .i64 f]) ∧ w' = w :=
  (rtake_any s w hs).mono fun e w' ⟨h1, h2⟩ => ⟨by rw [h1, h]; rfl, h2⟩

end Go.Proofs.YtbpjpdnkebdanaaDoor
