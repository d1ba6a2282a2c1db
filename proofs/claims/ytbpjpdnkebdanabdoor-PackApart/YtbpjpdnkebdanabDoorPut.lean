/- What Put of package pack answers, for every number: its sevens of bits, in new memory. -/
import Derived.Test.YtbpjpdnkebdanabDoorPlain
import Derived.Test.YtbpjpdnkebdanabDoorSev
namespace Go.Proofs.YtbpjpdnkebdanabDoor
open Go.ChangeShapes Go.WideShapes Go.ChangeAt Go.RowKit
set_option linter.unusedVariables false

/-- A byte's cell. -/
def bc (b : UInt8) : Value := .int .u8 (b.toNat : Int)
theorem info5 : (Tryd.prog.info? 5).map (fun i => (i.zero, i.size, i.bytes)) = some (some (.int .u8 0), 1, 1) := by kernel_rfl

theorem one_new (w : World) (v : Value) (j : Nat) (u : Value) (h : [v][j]? = some u) : (w.alloc (.cells #[v] 5)).cell? ((⟨w.heap.size, 0, none⟩ : Addr).add j) = some u := by
  match j, h with
  | 0, h => simp at h; subst h; simp [Addr.add]

theorem one_cell (k : IntKind) (n : Int) : ∀ u ∈ [Value.int k n], u.oneCell' = true := by
  intro u hu; simp at hu; subst hu; rfl

/-- A row that is owned and not empty has an address. -/
theorem owned_at {w : World} {B : Nat} {v : Value} {n : Nat} {xs : List Value} (h : w.ownsRow B 5 1 v (n + 1) xs) : ∃ g cap, v = .slice (some ⟨g, 0, none⟩) (n + 1) cap ∧ v.ownBlock = some g := by
  rcases h.2 with ⟨_, h⟩ | ⟨g, cap, cur, hv, _⟩
  · omega
  · exact ⟨g, cap, hv, by rw [hv]; rfl⟩

/-- The bytes of an owned row, as a text. -/
theorem owned_text {w : World} {B g cap : Nat} {l : List UInt8} (h : w.ownsRow B 5 1 (.slice (some ⟨g, 0, none⟩) l.length cap) l.length (l.map bc)) :
    (convert 38 9 (.slice (some ⟨g, 0, none⟩) l.length cap)).run Tryd.prog w = .ok (.string ⟨l.toArray⟩) w :=
  run_convert_bytes_back w 38 9 5 ⟨g, 0, none⟩ cap l Tryd.underlying38 Tryd.underlying5 Tryd.underlying9
    (fun j hj => h.cells rfl j _ (by simp [bc, hj]))

set_option maxRecDepth 100000 in
set_option maxHeartbeats 400000 in
theorem put_any (u : Int) (w : World) (h1 : 0 ≤ u) (h2 : u < 18446744073709551616) :
    Calls Tryd.prog 8 #[.int .u64 u] w fun e w' => e = .returned (.string ⟨(sevs u).toArray⟩) ∧ Below w.heap.size w w' := by
  obtain ⟨i0, hi, hz0, hz1, hz2⟩ := info_parts info5
  go_enter Tryd.func8, Tryd.ntmps8
  go_wp2
  go_loopw [0, 3] (fun u' v wr => ∃ (r f : Nat) (l : List UInt8), u' = .int .u64 r ∧ l.length + f = 9 ∧ Hid (r < 2 * 128 ^ f) ∧ r < 18446744073709551616 ∧ wr.ownsRow w.heap.size 5 1 v l.length (l.map bc) ∧ Below w.heap.size w wr ∧ Hid (l ++ sev f r = sevs u)) (fun u' _ _ => (intOf u').toNat)
  case atStart =>
    exact ⟨u.toNat, 9, [], by rw [Int.toNat_of_nonneg h1], rfl, show u.toNat < 2 * 128 ^ 9 by omega, by omega, World.ownsRow_nil _ _ _ _, Below.refl _ _, rfl⟩
  case round =>
    obtain ⟨r, f, l, rfl, hlf, HB, hr, hown, hbl, HS⟩ := hrel
    have hsz := hbl.size
    by_cases hlt : r < 128
    · go_wp2_with (first
        | (at_builtin; refine wpList_append_own _ rfl _ _ 38 rfl w.heap.size 5 i0 (.int .u8 0) 1 1 Tryd.underlying38 hi hz0 hz1 hz2 rfl (by decide) _ _ _ rfl (hown.alloc _) ⟨wr.heap.size, 0, none⟩ 1 1 [.int .u8 r] rfl rfl ?c1 ?c2 ?c3 ?c4 ?c5 ?_)
        | go_in)
      case c1 => exact one_new _ _
      case c2 => exact one_cell _ _
      case c3 => unfold maxLen; omega
      case c4 => omega
      case c5 => simp; omega
      · intro v' w1 hown' hgrow _
        have hown2 : w1.ownsRow w.heap.size 5 1 v' (l ++ [UInt8.ofNat r]).length ((l ++ [UInt8.ofNat r]).map bc) := by
          have e := byte_last r hlt
          simp only [List.length_append, List.length_singleton, List.map_append, List.map_cons, List.map_nil, bc]
          rw [← e]
          exact hown'
        have hbl2 : Below w.heap.size w w1 := (hbl.alloc hsz _).grown hgrow (by simp; omega) (fun k hk => (hown.lt k hk).1)
        have hfin : l ++ [UInt8.ofNat r] = sevs u := by
          have h := HS.out
          rw [sev_last f r hlt] at h
          exact h
        have HF : Hid (l ++ [UInt8.ofNat r] = sevs u) := hfin
        have hlen : (l ++ [UInt8.ofNat r]).length = l.length + 1 := by simp
        have hex : ∃ g cap, v' = .slice (some ⟨g, 0, none⟩) (l.length + 1) cap ∧ v'.ownBlock = some g := owned_at (by rw [hlen] at hown2; exact hown2)
        obtain ⟨g, cap, hv, _⟩ := hex
        have hconv := owned_text (l := l ++ [UInt8.ofNat r]) (g := g) (cap := cap) (by rw [hlen] at hown2 ⊢; rw [← hv]; exact hown2)
        rw [hlen] at hconv
        rw [hv]
        clear hown' hgrow hown hown2 hv hfin hlen
        go_wp2
        go_ret
        rw [← HF.out]
        exact ⟨rfl, hbl2⟩
    · go_wp2_with (first
        | (at_builtin; refine wpList_append_own _ rfl _ _ 38 rfl w.heap.size 5 i0 (.int .u8 0) 1 1 Tryd.underlying38 hi hz0 hz1 hz2 rfl (by decide) _ _ _ rfl (hown.alloc _) ⟨wr.heap.size, 0, none⟩ 1 1 [.int .u8 (bits .or .u8 ((r : Int) % 256) 128)] rfl rfl ?c1 ?c2 ?c3 ?c4 ?c5 ?_)
        | go_in)
      case c1 => exact one_new _ _
      case c2 => exact one_cell _ _
      case c3 => unfold maxLen; omega
      case c4 => omega
      case c5 => simp; omega
      · intro v' w1 hown' hgrow _
        have hown2 : w1.ownsRow w.heap.size 5 1 v' (l ++ [UInt8.ofNat (r % 128 + 128)]).length ((l ++ [UInt8.ofNat (r % 128 + 128)]).map bc) := by
          have e := byte_more' r
          simp only [List.length_append, List.length_singleton, List.map_append, List.map_cons, List.map_nil, bc]
          rw [← e]
          exact hown'
        have hbl2 : Below w.heap.size w w1 := (hbl.alloc hsz _).grown hgrow (by simp; omega) (fun k hk => (hown.lt k hk).1)
        obtain ⟨g, hfg, hg⟩ := put_step r f HB.out hlt
        have HF : Hid (f = g + 1) := hfg
        have HG : Hid (r / 128 < 2 * 128 ^ g) := hg
        clear hown' hgrow hown hfg hg
        go_wp2
        go_roundw
        case rel =>
          refine ⟨r / 128, g, l ++ [UInt8.ofNat (r % 128 + 128)], by go_num, ?_, HG, by omega, hown2, hbl2, ?_⟩
          · have := HF.out
            simp
            omega
          · have h := HS.out
            rw [HF.out, sev_more g r hlt] at h
            show l ++ [UInt8.ofNat (r % 128 + 128)] ++ sev g (r / 128) = sevs u
            rw [List.append_assoc]
            exact h
        case measure => simp [intOf]; omega

end Go.Proofs.YtbpjpdnkebdanabDoor
