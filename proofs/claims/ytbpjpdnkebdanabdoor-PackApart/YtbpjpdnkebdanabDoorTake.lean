/- What Take of package pack answers, for every text. -/
import Derived.Test.YtbpjpdnkebdanabDoorPlain
import Derived.Test.YtbpjpdnkebdanabDoorSev
namespace Go.Proofs.YtbpjpdnkebdanabDoor
open Go.ChangeShapes Go.WideShapes Go.ChangeAt Go.RowKit
set_option linter.unusedVariables false

/-- The answer of a reading, as the program hands it back. -/
def tkR (r : Nat × Nat × Nat) : Value := .tuple #[.int .u64 r.1, .int .i64 r.2.1, .int .i64 r.2.2]

theorem ret_take {a b : Int} {x y : Nat} (h : a = x) (g : b = y) : Ending.returned (.tuple #[.int .u64 a, .int .i64 b, .int .i64 0]) = .returned (tkR (x, y, 0)) := by
  rw [h, g]; rfl

set_option maxRecDepth 100000 in
set_option maxHeartbeats 400000 in
theorem take_any (s : ByteArray) (w : World) (hs : s.size ≤ maxLen) :
    Calls Tryd.prog 9 #[.string s] w fun e w' => e = .returned (tkR (tk s.data.toList 0 0)) ∧ w' = w := by
  unfold maxLen at hs
  go_enter Tryd.func9, Tryd.ntmps9
  go_wp2
  go_loop [5, 6] (fun u i => ∃ k acc : Nat, k ≤ s.size ∧ k ≤ 9 ∧ i = .int .i64 k ∧ u = .int .u64 acc ∧ Hid (acc < 128 ^ k) ∧ Hid (tk (s.data.toList.drop k) k acc = tk s.data.toList 0 0)) (fun _ i => s.size - (intOf i).toNat)
  case atStart => exact ⟨0, 0, Nat.zero_le _, by omega, rfl, rfl, show 0 < 128 ^ 0 by decide, rfl⟩
  case round =>
    obtain ⟨k, acc, hk, hk9, rfl, rfl, HA, HR⟩ := hrel
    by_cases hlt : k < s.size
    · have HD : Hid (s.data.toList.drop k = s[k] :: s.data.toList.drop (k + 1)) := drop_cons s k hlt
      have HB : Hid (s[k].toNat < 256) := UInt8.toNat_lt _
      go_wp2
      · have HR' := HR.out
        rw [HD.out, tkF _ _ _ _ (by omega) (by omega)] at HR'
        go_ret3
        rw [← HR']
        exact ⟨rfl, rfl⟩
      · have HR' := HR.out
        rw [HD.out, tkZ _ _ _ _ (by omega) (by omega)] at HR'
        go_ret3
        rw [← HR']
        exact ⟨rfl, rfl⟩
      · have HR' := HR.out
        have e9 : k = 9 := by omega
        rw [HD.out, tkE _ _ _ _ (by omega) (by omega) (by omega)] at HR'
        go_ret3
        rw [← HR']
        have ha := HA.out
        have hm : s[k].toNat % 128 = s[k].toNat := by omega
        have hp : (128 : Nat) ^ k = 128 ^ 9 := by rw [e9]
        rw [hp] at ha
        have hd := digit_eq9 acc s[k].toNat ha (by omega)
        rw [hm, ← hp] at hd
        exact ⟨ret_take hd (by omega), rfl⟩
      · have HR' := HR.out
        rw [HD.out, tkM _ _ _ _ (by omega) (by omega)] at HR'
        have hd := digit_eq k acc s[k].toNat hk9 HA.out HB.out (by omega)
        have ha := digit_acc k acc s[k].toNat HA.out
        go_round
        case rel => exact ⟨k + 1, acc + s[k].toNat % 128 * 128 ^ k, by omega, by omega, by go_num, by rw [hd], ha, HR'⟩
        case measure => simp [intOf]; omega
      · have HR' := HR.out
        rw [HD.out, tkZ _ _ _ _ (by omega) (by omega)] at HR'
        go_ret3
        rw [← HR']
        exact ⟨rfl, rfl⟩
      · have HR' := HR.out
        rw [HD.out, tkE _ _ _ _ (by omega) (by omega) (by omega)] at HR'
        go_ret3
        rw [← HR']
        have hd := digit_eq k acc 0 hk9 HA.out (by omega) (by omega)
        have hz : s[k].toNat = 0 := by omega
        have e : acc + 0 % 128 * 128 ^ k = acc + s[k].toNat * 128 ^ k := by rw [hz]
        rw [e] at hd
        exact ⟨ret_take hd (by omega), rfl⟩
      · have HR' := HR.out
        rw [HD.out, tkE _ _ _ _ (by omega) (by omega) (by omega)] at HR'
        go_ret3
        rw [← HR']
        have hm : s[k].toNat % 128 = s[k].toNat := by omega
        have hd := digit_eq k acc s[k].toNat hk9 HA.out HB.out (by omega)
        rw [hm] at hd
        exact ⟨ret_take hd (by omega), rfl⟩
    · have HR' := HR.out
      rw [List.drop_of_length_le (by simp; omega), tk] at HR'
      have HQ : Hid ((0, 0, 10) = tk s.data.toList 0 0) := HR'
      clear HR'
      go_wp2
      go_ret3
      rw [← HQ.out]
      exact ⟨rfl, rfl⟩

theorem data_append (l : List UInt8) (s : ByteArray) : ((⟨l.toArray⟩ : ByteArray) ++ s).data.toList = l ++ s.data.toList := by
  simp [ByteArray.data_append]
theorem size_append (l : List UInt8) (s : ByteArray) : ((⟨l.toArray⟩ : ByteArray) ++ s).size = l.length + s.size := by
  rw [ByteArray.size_append]; rfl

theorem take_at (s : ByteArray) (w : World) (hs : s.size ≤ maxLen) (n k f : Nat) (h : tk s.data.toList 0 0 = (n, k, f)) :
    Calls Tryd.prog 9 #[.string s] w fun e w' => e = .returned (.tuple #[.int .u64 n, .int .i64 k, .int .i64 f]) ∧ w' = w :=
  (take_any s w hs).mono fun e w' ⟨h1, h2⟩ => ⟨by rw [h1, h]; rfl, h2⟩

/-- What was laid, with whatever behind, is read again. -/
theorem take_put (u : Int) (s : ByteArray) (w : World) (h1 : 0 ≤ u) (h2 : u < 18446744073709551616) (hs : s.size ≤ 9223372036854775000) :
    Calls Tryd.prog 9 #[.string ((⟨(sevs u).toArray⟩ : ByteArray) ++ s)] w fun e w' => e = .returned (.tuple #[.int .u64 u, .int .i64 (sevs u).length, .int .i64 0]) ∧ w' = w :=
  (take_at _ w (by have := sevs_len u; rw [size_append]; unfold maxLen; omega) u.toNat (sevs u).length 0 (by rw [data_append, tk_sevs u _ h1 h2])).mono fun e w' ⟨g1, g2⟩ => ⟨by rw [g1, Int.toNat_of_nonneg h1]; rfl, g2⟩

end Go.Proofs.YtbpjpdnkebdanabDoor
