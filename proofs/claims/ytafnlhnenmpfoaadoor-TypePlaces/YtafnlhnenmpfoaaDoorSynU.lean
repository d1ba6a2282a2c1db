/- What is found in the tables of package syntax by a number. -/
import Derived.Test.YtafnlhnenmpfoaaDoorSynC
namespace Go.Proofs.YtafnlhnenmpfoaaDoor
open Go.ChangeShapes Go.WideShapes Go.ChangeAt Go.RowKit
set_option linter.unusedVariables false

def opOf (t : Int) : Option (List UInt8 × Nat × Nat × Nat × Nat) := opsL.find? fun x => (x.2.1 : Int) == t
set_option maxRecDepth 100000 in
set_option maxHeartbeats 1000000 in
theorem opOf_r (t : Int) (w : World) (hO : OpW w) :
    Calls Tryd.prog 94 #[.int .i64 t] w fun e w' => e = .returned (opF (opsL.find? (fun x => (x.2.1 : Int) == t))) ∧ Below w.heap.size w w' := by
  obtain ⟨tt, fr, hg⟩ := hO
  have IX : Hid (∀ (k : Nat) (x : List UInt8 × Nat × Nat × Nat × Nat), opsL[k]? = some x → ∀ w : World, (Instr.index 141 (.agg opA) (.int .i64 (k : Nat))).run Tryd.prog w = .ok (.agg #[stv x.1, .int .i64 (x.2.1 : Nat), .int .i64 (x.2.2.1 : Nat), .int .i64 (x.2.2.2.1 : Nat), .int .i64 (x.2.2.2.2 : Nat)]) w) := fun k x hx w => opA_at k x hx w
  have hsz := opInfo
  have hlen : opsL.length = 11 := rfl
  have B0 : Below w.heap.size w (w.alloc (.cells #[.string ⟨#[]⟩, .int .i64 0, .int .i64 0, .int .i64 0, .int .i64 0] 123)) := (Below.refl _ w).alloc (Nat.le_refl _) _
  have Z0 : (w.alloc (.cells #[.string ⟨#[]⟩, .int .i64 0, .int .i64 0, .int .i64 0, .int .i64 0] 123)).heap[w.heap.size]? = some (.cells #[.string ⟨#[]⟩, .int .i64 0, .int .i64 0, .int .i64 0, .int .i64 0] 123 (0, 0)) := heap_alloc_new w _
  have hg1 := (B0.block _ (lt_of_block hg)).trans hg
  generalize opA = cs at *
  generalize hl : opsL = l at *
  clear hg
  go_enter Tryd.func94, Tryd.ntmps94
  go_wp2_with (refine wpList_load_row rfl 141 _ rfl 3 rfl tt _ fr _ hg1 Tryd.underlying141 rfl hsz ?_)
  go_loopw [7] (fun v wr => ∃ k : Nat, k ≤ 11 ∧ v = .int .i64 (k : Nat) ∧ Hid (∀ j x, j < k → l[j]? = some x → ((x.2.1 : Int) == t) = false) ∧ wr.heap[w.heap.size]? = some (.cells #[.string ⟨#[]⟩, .int .i64 0, .int .i64 0, .int .i64 0, .int .i64 0] 123 (0, 0)) ∧ Below w.heap.size w wr) (fun v _ => 11 - (intOf v).toNat)
  case atStart => exact ⟨0, by omega, by go_num, (fun j x hj => by omega : _), Z0, B0⟩
  case round =>
    clear Z0 B0 hg1
    obtain ⟨k, hk, rfl, hin, Z, B⟩ := hrel
    by_cases hlt : k < 11
    · obtain ⟨x, hx⟩ : ∃ x, l[k]? = some x := ⟨l[k]'(by omega), by simp [hlen, hlt]⟩
      have ix := IX.out k x hx
      have hkI : (k : Int) < 11 := by omega
      have hbl := lt_of_block Z
      have Zn := (Below.heap_alloc wr (.cells #[stv x.1, .int .i64 (x.2.1 : Nat), .int .i64 (x.2.2.1 : Nat), .int .i64 (x.2.2.2.1 : Nat), .int .i64 (x.2.2.2.2 : Nat)] 123) _ hbl).trans Z
      have Xn : (wr.alloc (.cells #[stv x.1, .int .i64 (x.2.1 : Nat), .int .i64 (x.2.2.1 : Nat), .int .i64 (x.2.2.2.1 : Nat), .int .i64 (x.2.2.2.2 : Nat)] 123)).heap[wr.heap.size]? = _ := heap_alloc_new wr _
      have Bn : Below w.heap.size w (wr.alloc (.cells #[stv x.1, .int .i64 (x.2.1 : Nat), .int .i64 (x.2.2.1 : Nat), .int .i64 (x.2.2.2.1 : Nat), .int .i64 (x.2.2.2.2 : Nat)] 123)) := B.alloc B.size _
      by_cases hp : ((x.2.1 : Int) == t) = true
      · have fin : l.find? (fun x => (x.2.1 : Int) == t) = some x := find_at hx hp hin.out
        have hp1 : ((x.2.1 : Int) == t) = true := hp
        clear hin hlen IX hk hx hlt B Z hsz hl
        go_upto_region 5 with fail
        generalize wr.alloc (.cells #[stv x.1, .int .i64 (x.2.1 : Nat), .int .i64 (x.2.2.1 : Nat), .int .i64 (x.2.2.2.1 : Nat), .int .i64 (x.2.2.2.2 : Nat)] 123) = w3 at *
        generalize wr.heap.size = b7 at *
        have hbz := Blk.set (w := w3) (o := fun _ => 0) (i := 0) (b := w.heap.size) ⟨Zn, rfl⟩ 0 (.string ⟨x.1.toArray⟩)
        have hbz := hbz.set 1 (.int .i64 (x.2.1 : Nat))
        have hbz := hbz.set 2 (.int .i64 (x.2.2.1 : Nat))
        have hbz := hbz.set 3 (.int .i64 (x.2.2.2.1 : Nat))
        have hbz := hbz.set 4 (.int .i64 (x.2.2.2.2 : Nat))
        have BE := (((((Bn.setCell (p := ⟨w.heap.size, 0, none⟩) (Nat.le_refl _) (.string ⟨x.1.toArray⟩)).setCell (p := ⟨w.heap.size, 1, none⟩) (Nat.le_refl _) (.int .i64 (x.2.1 : Nat))).setCell (p := ⟨w.heap.size, 2, none⟩) (Nat.le_refl _) (.int .i64 (x.2.2.1 : Nat))).setCell (p := ⟨w.heap.size, 3, none⟩) (Nat.le_refl _) (.int .i64 (x.2.2.2.1 : Nat))).setCell (p := ⟨w.heap.size, 4, none⟩) (Nat.le_refl _) (.int .i64 (x.2.2.2.2 : Nat)))
        obtain ⟨u0, u1, u2, u3, u4, -⟩ := Blk.cells5 hbz
        obtain ⟨z0, z1, z2, z3, z4, zf⟩ := Blk.cells5 (o := fun _ => 0) (i := 0) ⟨Zn, rfl⟩
        obtain ⟨y0, y1, y2, y3, y4, yf⟩ := Blk.cells5 (o := fun _ => 0) (i := 0) ⟨Xn, rfl⟩
        clear hbz Zn Xn Bn
        go_wp2
        exact bodyPost_ret (v := .tuple #[.agg #[stv x.1, .int .i64 (x.2.1 : Nat), .int .i64 (x.2.2.1 : Nat), .int .i64 (x.2.2.2.1 : Nat), .int .i64 (x.2.2.2.2 : Nat)], .bool true]) (by simp [results, Tryd.results94, go_sem, u0, u1, u2, u3, u4]) rfl ⟨by rw [fin]; rfl, BE⟩
      · have hpf : ((x.2.1 : Int) == t) = false := by simpa using hp
        have hin' : Hid (∀ j x, j < k + 1 → l[j]? = some x → ((x.2.1 : Int) == t) = false) := fun j y hj hy => by
          by_cases e : j = k
          · subst e
            rw [hx] at hy
            injection hy with hy
            subst hy
            exact hpf
          · exact hin.out j y (by omega) hy
        have hp1 : ((x.2.1 : Int) == t) = false := hpf
        all_goals
          clear hin hlen IX hx B Z hsz hl
          go_wp2
          go_roundw
          case rel => (try ((repeat apply Exists.intro); refine ⟨?_, rfl⟩)); exact ⟨k + 1, by omega, by go_num, hin', Zn, Bn⟩
          case measure => simp [intOf]; omega
    · obtain rfl : k = 11 := by omega
      have fin : l.find? (fun x => (x.2.1 : Int) == t) = none := find_no fun j y hy => by
        refine hin.out j y ?_ hy
        by_cases hj : j < 11
        · exact hj
        · rw [List.getElem?_eq_none (by omega)] at hy
          cases hy
      clear hin IX hlt hlen hsz hl
      have hbz := Blk.set (w := wr) (o := fun _ => 0) (i := 0) (b := w.heap.size) ⟨Z, rfl⟩ 0 (.string ⟨#[]⟩)
      have hbz := hbz.set 1 (.int .i64 0)
      have hbz := hbz.set 2 (.int .i64 0)
      have hbz := hbz.set 3 (.int .i64 0)
      have hbz := hbz.set 4 (.int .i64 0)
      have BE := (((((B.setCell (p := ⟨w.heap.size, 0, none⟩) (Nat.le_refl _) (.string ⟨#[]⟩)).setCell (p := ⟨w.heap.size, 1, none⟩) (Nat.le_refl _) (.int .i64 0)).setCell (p := ⟨w.heap.size, 2, none⟩) (Nat.le_refl _) (.int .i64 0)).setCell (p := ⟨w.heap.size, 3, none⟩) (Nat.le_refl _) (.int .i64 0)).setCell (p := ⟨w.heap.size, 4, none⟩) (Nat.le_refl _) (.int .i64 0))
      obtain ⟨u0, u1, u2, u3, u4, -⟩ := Blk.cells5 hbz
      obtain ⟨z0, z1, z2, z3, z4, zf⟩ := Blk.cells5 (o := fun _ => 0) (i := 0) ⟨Z, rfl⟩
      clear hbz Z B
      go_wp2
      exact bodyPost_ret (v := .tuple #[.agg #[.string ⟨#[]⟩, .int .i64 0, .int .i64 0, .int .i64 0, .int .i64 0], .bool false]) (by simp [results, Tryd.results94, go_sem, u0, u1, u2, u3, u4]) rfl ⟨by rw [fin]; rfl, BE⟩
def callOf (t : Int) : Option (List UInt8 × Nat × Nat) := callsL.find? fun x => (x.2.1 : Int) == t
set_option maxRecDepth 100000 in
set_option maxHeartbeats 1000000 in
theorem callOf_r (t : Int) (w : World) (hO : ClW w) :
    Calls Tryd.prog 69 #[.int .i64 t] w fun e w' => e = .returned (clF (callsL.find? (fun x => (x.2.1 : Int) == t))) ∧ Below w.heap.size w w' := by
  obtain ⟨tt, fr, hg⟩ := hO
  have IX : Hid (∀ (k : Nat) (x : List UInt8 × Nat × Nat), callsL[k]? = some x → ∀ w : World, (Instr.index 126 (.agg clA) (.int .i64 (k : Nat))).run Tryd.prog w = .ok (.agg #[stv x.1, .int .i64 (x.2.1 : Nat), .int .i64 (x.2.2 : Nat)]) w) := fun k x hx w => clA_at k x hx w
  have hsz := clInfo
  have hlen : callsL.length = 10 := rfl
  have B0 : Below w.heap.size w (w.alloc (.cells #[.string ⟨#[]⟩, .int .i64 0, .int .i64 0] 104)) := (Below.refl _ w).alloc (Nat.le_refl _) _
  have Z0 : (w.alloc (.cells #[.string ⟨#[]⟩, .int .i64 0, .int .i64 0] 104)).heap[w.heap.size]? = some (.cells #[.string ⟨#[]⟩, .int .i64 0, .int .i64 0] 104 (0, 0)) := heap_alloc_new w _
  have hg1 := (B0.block _ (lt_of_block hg)).trans hg
  generalize clA = cs at *
  generalize hl : callsL = l at *
  clear hg
  go_enter Tryd.func69, Tryd.ntmps69
  go_wp2_with (refine wpList_load_row rfl 126 _ rfl 0 rfl tt _ fr _ hg1 Tryd.underlying126 rfl hsz ?_)
  go_loopw [7] (fun v wr => ∃ k : Nat, k ≤ 10 ∧ v = .int .i64 (k : Nat) ∧ Hid (∀ j x, j < k → l[j]? = some x → ((x.2.1 : Int) == t) = false) ∧ wr.heap[w.heap.size]? = some (.cells #[.string ⟨#[]⟩, .int .i64 0, .int .i64 0] 104 (0, 0)) ∧ Below w.heap.size w wr) (fun v _ => 10 - (intOf v).toNat)
  case atStart => exact ⟨0, by omega, by go_num, (fun j x hj => by omega : _), Z0, B0⟩
  case round =>
    clear Z0 B0 hg1
    obtain ⟨k, hk, rfl, hin, Z, B⟩ := hrel
    by_cases hlt : k < 10
    · obtain ⟨x, hx⟩ : ∃ x, l[k]? = some x := ⟨l[k]'(by omega), by simp [hlen, hlt]⟩
      have ix := IX.out k x hx
      have hkI : (k : Int) < 10 := by omega
      have hbl := lt_of_block Z
      have Zn := (Below.heap_alloc wr (.cells #[stv x.1, .int .i64 (x.2.1 : Nat), .int .i64 (x.2.2 : Nat)] 104) _ hbl).trans Z
      have Xn : (wr.alloc (.cells #[stv x.1, .int .i64 (x.2.1 : Nat), .int .i64 (x.2.2 : Nat)] 104)).heap[wr.heap.size]? = _ := heap_alloc_new wr _
      have Bn : Below w.heap.size w (wr.alloc (.cells #[stv x.1, .int .i64 (x.2.1 : Nat), .int .i64 (x.2.2 : Nat)] 104)) := B.alloc B.size _
      by_cases hp : ((x.2.1 : Int) == t) = true
      · have fin : l.find? (fun x => (x.2.1 : Int) == t) = some x := find_at hx hp hin.out
        have hp1 : ((x.2.1 : Int) == t) = true := hp
        clear hin hlen IX hk hx hlt B Z hsz hl
        go_upto_region 5 with fail
        generalize wr.alloc (.cells #[stv x.1, .int .i64 (x.2.1 : Nat), .int .i64 (x.2.2 : Nat)] 104) = w3 at *
        generalize wr.heap.size = b7 at *
        have hbz := Blk.set (w := w3) (o := fun _ => 0) (i := 0) (b := w.heap.size) ⟨Zn, rfl⟩ 0 (.string ⟨x.1.toArray⟩)
        have hbz := hbz.set 1 (.int .i64 (x.2.1 : Nat))
        have hbz := hbz.set 2 (.int .i64 (x.2.2 : Nat))
        have BE := (((Bn.setCell (p := ⟨w.heap.size, 0, none⟩) (Nat.le_refl _) (.string ⟨x.1.toArray⟩)).setCell (p := ⟨w.heap.size, 1, none⟩) (Nat.le_refl _) (.int .i64 (x.2.1 : Nat))).setCell (p := ⟨w.heap.size, 2, none⟩) (Nat.le_refl _) (.int .i64 (x.2.2 : Nat)))
        obtain ⟨u0, u1, u2, -⟩ := Blk.cells3 hbz
        obtain ⟨z0, z1, z2, zf⟩ := Blk.cells3 (o := fun _ => 0) (i := 0) ⟨Zn, rfl⟩
        obtain ⟨y0, y1, y2, yf⟩ := Blk.cells3 (o := fun _ => 0) (i := 0) ⟨Xn, rfl⟩
        clear hbz Zn Xn Bn
        go_wp2
        exact bodyPost_ret (v := .tuple #[.agg #[stv x.1, .int .i64 (x.2.1 : Nat), .int .i64 (x.2.2 : Nat)], .bool true]) (by simp [results, Tryd.results69, go_sem, u0, u1, u2]) rfl ⟨by rw [fin]; rfl, BE⟩
      · have hpf : ((x.2.1 : Int) == t) = false := by simpa using hp
        have hin' : Hid (∀ j x, j < k + 1 → l[j]? = some x → ((x.2.1 : Int) == t) = false) := fun j y hj hy => by
          by_cases e : j = k
          · subst e
            rw [hx] at hy
            injection hy with hy
            subst hy
            exact hpf
          · exact hin.out j y (by omega) hy
        have hp1 : ((x.2.1 : Int) == t) = false := hpf
        all_goals
          clear hin hlen IX hx B Z hsz hl
          go_wp2
          go_roundw
          case rel => (try ((repeat apply Exists.intro); refine ⟨?_, rfl⟩)); exact ⟨k + 1, by omega, by go_num, hin', Zn, Bn⟩
          case measure => simp [intOf]; omega
    · obtain rfl : k = 10 := by omega
      have fin : l.find? (fun x => (x.2.1 : Int) == t) = none := find_no fun j y hy => by
        refine hin.out j y ?_ hy
        by_cases hj : j < 10
        · exact hj
        · rw [List.getElem?_eq_none (by omega)] at hy
          cases hy
      clear hin IX hlt hlen hsz hl
      have hbz := Blk.set (w := wr) (o := fun _ => 0) (i := 0) (b := w.heap.size) ⟨Z, rfl⟩ 0 (.string ⟨#[]⟩)
      have hbz := hbz.set 1 (.int .i64 0)
      have hbz := hbz.set 2 (.int .i64 0)
      have BE := (((B.setCell (p := ⟨w.heap.size, 0, none⟩) (Nat.le_refl _) (.string ⟨#[]⟩)).setCell (p := ⟨w.heap.size, 1, none⟩) (Nat.le_refl _) (.int .i64 0)).setCell (p := ⟨w.heap.size, 2, none⟩) (Nat.le_refl _) (.int .i64 0))
      obtain ⟨u0, u1, u2, -⟩ := Blk.cells3 hbz
      obtain ⟨z0, z1, z2, zf⟩ := Blk.cells3 (o := fun _ => 0) (i := 0) ⟨Z, rfl⟩
      clear hbz Z B
      go_wp2
      exact bodyPost_ret (v := .tuple #[.agg #[.string ⟨#[]⟩, .int .i64 0, .int .i64 0], .bool false]) (by simp [results, Tryd.results69, go_sem, u0, u1, u2]) rfl ⟨by rw [fin]; rfl, BE⟩
def quantOf (t : Int) : Option (List UInt8 × Nat) := quantsL.find? fun x => (x.2 : Int) == t
set_option maxRecDepth 100000 in
set_option maxHeartbeats 1000000 in
theorem quantOf_r (t : Int) (w : World) (hO : QnW w) :
    Calls Tryd.prog 93 #[.int .i64 t] w fun e w' => e = .returned (qnF (quantsL.find? (fun x => (x.2 : Int) == t))) ∧ Below w.heap.size w w' := by
  obtain ⟨tt, fr, hg⟩ := hO
  have IX : Hid (∀ (k : Nat) (x : List UInt8 × Nat), quantsL[k]? = some x → ∀ w : World, (Instr.index 140 (.agg qnA) (.int .i64 (k : Nat))).run Tryd.prog w = .ok (.agg #[stv x.1, .int .i64 (x.2 : Nat)]) w) := fun k x hx w => qnA_at k x hx w
  have hsz := qnInfo
  have hlen : quantsL.length = 6 := rfl
  have B0 : Below w.heap.size w (w.alloc (.cells #[.string ⟨#[]⟩, .int .i64 0] 119)) := (Below.refl _ w).alloc (Nat.le_refl _) _
  have Z0 : (w.alloc (.cells #[.string ⟨#[]⟩, .int .i64 0] 119)).heap[w.heap.size]? = some (.cells #[.string ⟨#[]⟩, .int .i64 0] 119 (0, 0)) := heap_alloc_new w _
  have hg1 := (B0.block _ (lt_of_block hg)).trans hg
  generalize qnA = cs at *
  generalize hl : quantsL = l at *
  clear hg
  go_enter Tryd.func93, Tryd.ntmps93
  go_wp2_with (refine wpList_load_row rfl 140 _ rfl 2 rfl tt _ fr _ hg1 Tryd.underlying140 rfl hsz ?_)
  go_loopw [7] (fun v wr => ∃ k : Nat, k ≤ 6 ∧ v = .int .i64 (k : Nat) ∧ Hid (∀ j x, j < k → l[j]? = some x → ((x.2 : Int) == t) = false) ∧ wr.heap[w.heap.size]? = some (.cells #[.string ⟨#[]⟩, .int .i64 0] 119 (0, 0)) ∧ Below w.heap.size w wr) (fun v _ => 6 - (intOf v).toNat)
  case atStart => exact ⟨0, by omega, by go_num, (fun j x hj => by omega : _), Z0, B0⟩
  case round =>
    clear Z0 B0 hg1
    obtain ⟨k, hk, rfl, hin, Z, B⟩ := hrel
    by_cases hlt : k < 6
    · obtain ⟨x, hx⟩ : ∃ x, l[k]? = some x := ⟨l[k]'(by omega), by simp [hlen, hlt]⟩
      have ix := IX.out k x hx
      have hkI : (k : Int) < 6 := by omega
      have hbl := lt_of_block Z
      have Zn := (Below.heap_alloc wr (.cells #[stv x.1, .int .i64 (x.2 : Nat)] 119) _ hbl).trans Z
      have Xn : (wr.alloc (.cells #[stv x.1, .int .i64 (x.2 : Nat)] 119)).heap[wr.heap.size]? = _ := heap_alloc_new wr _
      have Bn : Below w.heap.size w (wr.alloc (.cells #[stv x.1, .int .i64 (x.2 : Nat)] 119)) := B.alloc B.size _
      by_cases hp : ((x.2 : Int) == t) = true
      · have fin : l.find? (fun x => (x.2 : Int) == t) = some x := find_at hx hp hin.out
        have hp1 : ((x.2 : Int) == t) = true := hp
        clear hin hlen IX hk hx hlt B Z hsz hl
        go_upto_region 5 with fail
        generalize wr.alloc (.cells #[stv x.1, .int .i64 (x.2 : Nat)] 119) = w3 at *
        generalize wr.heap.size = b7 at *
        have hbz := Blk.set (w := w3) (o := fun _ => 0) (i := 0) (b := w.heap.size) ⟨Zn, rfl⟩ 0 (.string ⟨x.1.toArray⟩)
        have hbz := hbz.set 1 (.int .i64 (x.2 : Nat))
        have BE := ((Bn.setCell (p := ⟨w.heap.size, 0, none⟩) (Nat.le_refl _) (.string ⟨x.1.toArray⟩)).setCell (p := ⟨w.heap.size, 1, none⟩) (Nat.le_refl _) (.int .i64 (x.2 : Nat)))
        obtain ⟨u0, u1, -⟩ := Blk.cells2 hbz
        obtain ⟨z0, z1, zf⟩ := Blk.cells2 (o := fun _ => 0) (i := 0) ⟨Zn, rfl⟩
        obtain ⟨y0, y1, yf⟩ := Blk.cells2 (o := fun _ => 0) (i := 0) ⟨Xn, rfl⟩
        clear hbz Zn Xn Bn
        go_wp2
        exact bodyPost_ret (v := .tuple #[.agg #[stv x.1, .int .i64 (x.2 : Nat)], .bool true]) (by simp [results, Tryd.results93, go_sem, u0, u1]) rfl ⟨by rw [fin]; rfl, BE⟩
      · have hpf : ((x.2 : Int) == t) = false := by simpa using hp
        have hin' : Hid (∀ j x, j < k + 1 → l[j]? = some x → ((x.2 : Int) == t) = false) := fun j y hj hy => by
          by_cases e : j = k
          · subst e
            rw [hx] at hy
            injection hy with hy
            subst hy
            exact hpf
          · exact hin.out j y (by omega) hy
        have hp1 : ((x.2 : Int) == t) = false := hpf
        all_goals
          clear hin hlen IX hx B Z hsz hl
          go_wp2
          go_roundw
          case rel => (try ((repeat apply Exists.intro); refine ⟨?_, rfl⟩)); exact ⟨k + 1, by omega, by go_num, hin', Zn, Bn⟩
          case measure => simp [intOf]; omega
    · obtain rfl : k = 6 := by omega
      have fin : l.find? (fun x => (x.2 : Int) == t) = none := find_no fun j y hy => by
        refine hin.out j y ?_ hy
        by_cases hj : j < 6
        · exact hj
        · rw [List.getElem?_eq_none (by omega)] at hy
          cases hy
      clear hin IX hlt hlen hsz hl
      have hbz := Blk.set (w := wr) (o := fun _ => 0) (i := 0) (b := w.heap.size) ⟨Z, rfl⟩ 0 (.string ⟨#[]⟩)
      have hbz := hbz.set 1 (.int .i64 0)
      have BE := ((B.setCell (p := ⟨w.heap.size, 0, none⟩) (Nat.le_refl _) (.string ⟨#[]⟩)).setCell (p := ⟨w.heap.size, 1, none⟩) (Nat.le_refl _) (.int .i64 0))
      obtain ⟨u0, u1, -⟩ := Blk.cells2 hbz
      obtain ⟨z0, z1, zf⟩ := Blk.cells2 (o := fun _ => 0) (i := 0) ⟨Z, rfl⟩
      clear hbz Z B
      go_wp2
      exact bodyPost_ret (v := .tuple #[.agg #[.string ⟨#[]⟩, .int .i64 0], .bool false]) (by simp [results, Tryd.results93, go_sem, u0, u1]) rfl ⟨by rw [fin]; rfl, BE⟩
end Go.Proofs.YtafnlhnenmpfoaaDoor
