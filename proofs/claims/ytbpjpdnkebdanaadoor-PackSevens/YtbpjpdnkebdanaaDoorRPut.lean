/- What the document's own Put answers, for every number. -/
import Derived.Test.YtbpjpdnkebdanaaDoorPut
namespace Go.Proofs.YtbpjpdnkebdanaaDoor
open Go.ChangeShapes Go.WideShapes Go.ChangeAt Go.RowKit
set_option linter.unusedVariables false

set_option maxRecDepth 100000 in
set_option maxHeartbeats 400000 in
theorem rput_any (u : Int) (w : World) (h1 : 0 ≤ u) (h2 : u < 18446744073709551616) :
    Calls Tryd.prog 16 #[.int .u64 u] w fun e w' => e = .returned (.string ⟨(sevs u).toArray⟩) ∧ Below w.heap.size w w' := by
  obtain ⟨i0, hi, hz0, hz1, hz2⟩ := info_parts info5
  go_enter Tryd.func16, Tryd.ntmps16
  go_wp2
  go_loopw [0, 3] (fun u' v wr => ∃ (r f : Nat) (l : List UInt8), u' = .int .u64 r ∧ l.length + f = 9 ∧ Hid (r < 2 * 128 ^ f) ∧ r < 18446744073709551616 ∧ wr.ownsRow w.heap.size 5 1 v l.length (l.map bc) ∧ Below w.heap.size w wr ∧ Hid (l ++ sev f r = sevs u)) (fun u' _ _ => (intOf u').toNat)
  case atStart =>
    exact ⟨u.toNat, 9, [], by rw [Int.toNat_of_nonneg h1], rfl, show u.toNat < 2 * 128 ^ 9 by omega, by omega, World.ownsRow_nil _ _ _ _, Below.refl _ _, rfl⟩
  case round =>
    obtain ⟨r, f, l, rfl, hlf, HB, hr, hown, hbl, HS⟩ := hrel
    have hsz := hbl.size
    by_cases hlt : r < 128
    · go_wp2_with (first
        | (at_builtin; refine wpList_append_own _ rfl _ _ 41 rfl w.heap.size 5 i0 (.int .u8 0) 1 1 Tryd.underlying41 hi hz0 hz1 hz2 rfl (by decide) _ _ _ rfl (hown.alloc _) ⟨wr.heap.size, 0, none⟩ 1 1 [.int .u8 r] rfl rfl ?c1 ?c2 ?c3 ?c4 ?c5 ?_)
        | go_in)
      case c1 => exact one_new _ _
      case c2 => exact one_cell _ _
      case c3 => unfold maxLen; omega
      case c4 => omega
      case c5 => simp; omega
      · intro v' w1 hown' hgrow _
        have hown2 : w1.ownsRow w.heap.size 5 1 v' (l ++ [UInt8.ofNat r]).length ((l ++ [UInt8.ofNat r]).map bc) := by
          have e := byte_last r hlt
          simp only [List.length_append, List.length_singleton, List.map_append, List.map_cons, List.map_nil, bc]
          rw [← e]
          exact hown'
        have hbl2 : Below w.heap.size w w1 := (hbl.alloc hsz _).grown hgrow (by simp; omega) (fun k hk => (hown.lt k hk).1)
        have hfin : l ++ [UInt8.ofNat r] = sevs u := by
          have h := HS.out
          rw [sev_last f r hlt] at h
          exact h
        have HF : Hid (l ++ [UInt8.ofNat r] = sevs u) := hfin
        have hlen : (l ++ [UInt8.ofNat r]).length = l.length + 1 := by simp
        have hex : ∃ g cap, v' = .slice (some ⟨g, 0, none⟩) (l.length + 1) cap ∧ v'.ownBlock = some g := owned_at (by rw [hlen] at hown2; exact hown2)
        obtain ⟨g, cap, hv, _⟩ := hex
        have hconv := owned_text (l := l ++ [UInt8.ofNat r]) (g := g) (cap := cap) (by rw [hlen] at hown2 ⊢; rw [← hv]; exact hown2)
        rw [hlen] at hconv
        rw [hv]
        clear hown' hgrow hown hown2 hv hfin hlen
        go_wp2
        go_ret
        rw [← HF.out]
        exact ⟨rfl, hbl2⟩
    · go_wp2_with (first
        | (at_builtin; refine wpList_append_own _ rfl _ _ 41 rfl w.heap.size 5 i0 (.int .u8 0) 1 1 Tryd.underlying41 hi hz0 hz1 hz2 rfl (by decide) _ _ _ rfl (hown.alloc _) ⟨wr.heap.size, 0, none⟩ 1 1 [.int .u8 ((r : Int) % 128 + 128)] rfl rfl ?c1 ?c2 ?c3 ?c4 ?c5 ?_)
        | go_in)
      case c1 => exact one_new _ _
      case c2 => exact one_cell _ _
      case c3 => unfold maxLen; omega
      case c4 => omega
      case c5 => simp; omega
      · intro v' w1 hown' hgrow _
        have hown2 : w1.ownsRow w.heap.size 5 1 v' (l ++ [UInt8.ofNat (r % 128 + 128)]).length ((l ++ [UInt8.ofNat (r % 128 + 128)]).map bc) := by
          have e := byte_sum r
          simp only [List.length_append, List.length_singleton, List.map_append, List.map_cons, List.map_nil, bc]
          rw [← e]
          exact hown'
        have hbl2 : Below w.heap.size w w1 := (hbl.alloc hsz _).grown hgrow (by simp; omega) (fun k hk => (hown.lt k hk).1)
        obtain ⟨g, hfg, hg⟩ := put_step r f HB.out hlt
        have HF : Hid (f = g + 1) := hfg
        have HG : Hid (r / 128 < 2 * 128 ^ g) := hg
        clear hown' hgrow hown hfg hg
        go_wp2
        go_roundw
        case rel =>
          refine ⟨r / 128, g, l ++ [UInt8.ofNat (r % 128 + 128)], by go_num, ?_, HG, by omega, hown2, hbl2, ?_⟩
          · have := HF.out
            simp
            omega
          · have h := HS.out
            rw [HF.out, sev_more g r hlt] at h
            show l ++ [UInt8.ofNat (r % 128 + 128)] ++ sev g (r / 128) = sevs u
            rw [List.append_assoc]
            exact h
        case measure => simp [intOf]; omega

end Go.Proofs.YtbpjpdnkebdanaaDoor
