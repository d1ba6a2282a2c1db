/- The parts of a tree, one by one: is it a set, its row; what holds of its number, its name, its kids. -/
import Derived.Test.YtafnlhnenmpfoaaGreatDoorSynS
namespace Go.Proofs.YtafnlhnenmpfoaaGreatDoor
open Go.ChangeShapes Go.WideShapes Go.ChangeAt Go.RowKit
set_option linter.unusedVariables false

def opOf (t : Int) : Option (List UInt8 × Nat × Nat × Nat × Nat) := opsL.find? fun x => (x.2.1 : Int) == t
set_option maxRecDepth 100000 in
set_option maxHeartbeats 1000000 in
theorem opOf_r (t : Int) (w : World) (hO : OpW w) :
    Calls Tryz.prog 128 #[.int .i64 t] w fun e w' => e = .returned (opF (opsL.find? (fun x => (x.2.1 : Int) == t))) ∧ Below w.heap.size w w' := by
  obtain ⟨tt, fr, hg⟩ := hO
  have IX : Hid (∀ (k : Nat) (x : List UInt8 × Nat × Nat × Nat × Nat), opsL[k]? = some x → ∀ w : World, (Instr.index 152 (.agg opA) (.int .i64 (k : Nat))).run Tryz.prog w = .ok (.agg #[stv x.1, .int .i64 (x.2.1 : Nat), .int .i64 (x.2.2.1 : Nat), .int .i64 (x.2.2.2.1 : Nat), .int .i64 (x.2.2.2.2 : Nat)]) w) := fun k x hx w => opA_at k x hx w
  have hsz := opInfo
  have hlen : opsL.length = 11 := rfl
  have B0 : Below w.heap.size w (w.alloc (.cells #[.string ⟨#[]⟩, .int .i64 0, .int .i64 0, .int .i64 0, .int .i64 0] 137)) := (Below.refl _ w).alloc (Nat.le_refl _) _
  have Z0 : (w.alloc (.cells #[.string ⟨#[]⟩, .int .i64 0, .int .i64 0, .int .i64 0, .int .i64 0] 137)).heap[w.heap.size]? = some (.cells #[.string ⟨#[]⟩, .int .i64 0, .int .i64 0, .int .i64 0, .int .i64 0] 137 (0, 0)) := heap_alloc_new w _
  have hg1 := (B0.block _ (lt_of_block hg)).trans hg
  generalize opA = cs at *
  generalize hl : opsL = l at *
  clear hg
  go_enter Tryz.func128, Tryz.ntmps128
  go_wp2_with (refine wpList_load_row rfl 152 _ rfl 3 rfl tt _ fr _ hg1 Tryz.underlying152 rfl hsz ?_)
  go_loopw [7] (fun v wr => ∃ k : Nat, k ≤ 11 ∧ v = .int .i64 (k : Nat) ∧ Hid (∀ j x, j < k → l[j]? = some x → ((x.2.1 : Int) == t) = false) ∧ wr.heap[w.heap.size]? = some (.cells #[.string ⟨#[]⟩, .int .i64 0, .int .i64 0, .int .i64 0, .int .i64 0] 137 (0, 0)) ∧ Below w.heap.size w wr) (fun v _ => 11 - (intOf v).toNat)
  case atStart => exact ⟨0, by omega, by go_num, (fun j x hj => by omega : _), Z0, B0⟩
  case round =>
    clear Z0 B0 hg1
    obtain ⟨k, hk, rfl, hin, Z, B⟩ := hrel
    by_cases hlt : k < 11
    · obtain ⟨x, hx⟩ : ∃ x, l[k]? = some x := ⟨l[k]'(by omega), by simp [hlen, hlt]⟩
      have ix := IX.out k x hx
      have hkI : (k : Int) < 11 := by omega
      have hbl := lt_of_block Z
      have Zn := (Below.heap_alloc wr (.cells #[stv x.1, .int .i64 (x.2.1 : Nat), .int .i64 (x.2.2.1 : Nat), .int .i64 (x.2.2.2.1 : Nat), .int .i64 (x.2.2.2.2 : Nat)] 137) _ hbl).trans Z
      have Xn : (wr.alloc (.cells #[stv x.1, .int .i64 (x.2.1 : Nat), .int .i64 (x.2.2.1 : Nat), .int .i64 (x.2.2.2.1 : Nat), .int .i64 (x.2.2.2.2 : Nat)] 137)).heap[wr.heap.size]? = _ := heap_alloc_new wr _
      have Bn : Below w.heap.size w (wr.alloc (.cells #[stv x.1, .int .i64 (x.2.1 : Nat), .int .i64 (x.2.2.1 : Nat), .int .i64 (x.2.2.2.1 : Nat), .int .i64 (x.2.2.2.2 : Nat)] 137)) := B.alloc B.size _
      by_cases hp : ((x.2.1 : Int) == t) = true
      · have fin : l.find? (fun x => (x.2.1 : Int) == t) = some x := find_at hx hp hin.out
        have hp1 : ((x.2.1 : Int) == t) = true := hp
        clear hin hlen IX hk hx hlt B Z hsz hl
        go_upto_region 5 with fail
        generalize wr.alloc (.cells #[stv x.1, .int .i64 (x.2.1 : Nat), .int .i64 (x.2.2.1 : Nat), .int .i64 (x.2.2.2.1 : Nat), .int .i64 (x.2.2.2.2 : Nat)] 137) = w3 at *
        generalize wr.heap.size = b7 at *
        have hbz := Blk.set (w := w3) (o := fun _ => 0) (i := 0) (b := w.heap.size) ⟨Zn, rfl⟩ 0 (.string ⟨x.1.toArray⟩)
        have hbz := hbz.set 1 (.int .i64 (x.2.1 : Nat))
        have hbz := hbz.set 2 (.int .i64 (x.2.2.1 : Nat))
        have hbz := hbz.set 3 (.int .i64 (x.2.2.2.1 : Nat))
        have hbz := hbz.set 4 (.int .i64 (x.2.2.2.2 : Nat))
        have BE := (((((Bn.setCell (p := ⟨w.heap.size, 0, none⟩) (Nat.le_refl _) (.string ⟨x.1.toArray⟩)).setCell (p := ⟨w.heap.size, 1, none⟩) (Nat.le_refl _) (.int .i64 (x.2.1 : Nat))).setCell (p := ⟨w.heap.size, 2, none⟩) (Nat.le_refl _) (.int .i64 (x.2.2.1 : Nat))).setCell (p := ⟨w.heap.size, 3, none⟩) (Nat.le_refl _) (.int .i64 (x.2.2.2.1 : Nat))).setCell (p := ⟨w.heap.size, 4, none⟩) (Nat.le_refl _) (.int .i64 (x.2.2.2.2 : Nat)))
        obtain ⟨u0, u1, u2, u3, u4, -⟩ := Blk.cells5 hbz
        obtain ⟨z0, z1, z2, z3, z4, zf⟩ := Blk.cells5 (o := fun _ => 0) (i := 0) ⟨Zn, rfl⟩
        obtain ⟨y0, y1, y2, y3, y4, yf⟩ := Blk.cells5 (o := fun _ => 0) (i := 0) ⟨Xn, rfl⟩
        clear hbz Zn Xn Bn
        go_wp2
        exact bodyPost_ret (v := .tuple #[.agg #[stv x.1, .int .i64 (x.2.1 : Nat), .int .i64 (x.2.2.1 : Nat), .int .i64 (x.2.2.2.1 : Nat), .int .i64 (x.2.2.2.2 : Nat)], .bool true]) (by simp [results, Tryz.results128, go_sem, u0, u1, u2, u3, u4]) rfl ⟨by rw [fin]; rfl, BE⟩
      · have hpf : ((x.2.1 : Int) == t) = false := by simpa using hp
        have hin' : Hid (∀ j x, j < k + 1 → l[j]? = some x → ((x.2.1 : Int) == t) = false) := fun j y hj hy => by
          by_cases e : j = k
          · subst e
            rw [hx] at hy
            injection hy with hy
            subst hy
            exact hpf
          · exact hin.out j y (by omega) hy
        have hp1 : ((x.2.1 : Int) == t) = false := hpf
        all_goals
          clear hin hlen IX hx B Z hsz hl
          go_wp2
          go_roundw
          case rel => (try ((repeat apply Exists.intro); refine ⟨?_, rfl⟩)); exact ⟨k + 1, by omega, by go_num, hin', Zn, Bn⟩
          case measure => simp [intOf]; omega
    · obtain rfl : k = 11 := by omega
      have fin : l.find? (fun x => (x.2.1 : Int) == t) = none := find_no fun j y hy => by
        refine hin.out j y ?_ hy
        by_cases hj : j < 11
        · exact hj
        · rw [List.getElem?_eq_none (by omega)] at hy
          cases hy
      clear hin IX hlt hlen hsz hl
      have hbz := Blk.set (w := wr) (o := fun _ => 0) (i := 0) (b := w.heap.size) ⟨Z, rfl⟩ 0 (.string ⟨#[]⟩)
      have hbz := hbz.set 1 (.int .i64 0)
      have hbz := hbz.set 2 (.int .i64 0)
      have hbz := hbz.set 3 (.int .i64 0)
      have hbz := hbz.set 4 (.int .i64 0)
      have BE := (((((B.setCell (p := ⟨w.heap.size, 0, none⟩) (Nat.le_refl _) (.string ⟨#[]⟩)).setCell (p := ⟨w.heap.size, 1, none⟩) (Nat.le_refl _) (.int .i64 0)).setCell (p := ⟨w.heap.size, 2, none⟩) (Nat.le_refl _) (.int .i64 0)).setCell (p := ⟨w.heap.size, 3, none⟩) (Nat.le_refl _) (.int .i64 0)).setCell (p := ⟨w.heap.size, 4, none⟩) (Nat.le_refl _) (.int .i64 0))
      obtain ⟨u0, u1, u2, u3, u4, -⟩ := Blk.cells5 hbz
      obtain ⟨z0, z1, z2, z3, z4, zf⟩ := Blk.cells5 (o := fun _ => 0) (i := 0) ⟨Z, rfl⟩
      clear hbz Z B
      go_wp2
      exact bodyPost_ret (v := .tuple #[.agg #[.string ⟨#[]⟩, .int .i64 0, .int .i64 0, .int .i64 0, .int .i64 0], .bool false]) (by simp [results, Tryz.results128, go_sem, u0, u1, u2, u3, u4]) rfl ⟨by rw [fin]; rfl, BE⟩
def callOf (t : Int) : Option (List UInt8 × Nat × Nat) := callsL.find? fun x => (x.2.1 : Int) == t
set_option maxRecDepth 100000 in
set_option maxHeartbeats 1000000 in
theorem callOf_r (t : Int) (w : World) (hO : ClW w) :
    Calls Tryz.prog 104 #[.int .i64 t] w fun e w' => e = .returned (clF (callsL.find? (fun x => (x.2.1 : Int) == t))) ∧ Below w.heap.size w w' := by
  obtain ⟨tt, fr, hg⟩ := hO
  have IX : Hid (∀ (k : Nat) (x : List UInt8 × Nat × Nat), callsL[k]? = some x → ∀ w : World, (Instr.index 140 (.agg clA) (.int .i64 (k : Nat))).run Tryz.prog w = .ok (.agg #[stv x.1, .int .i64 (x.2.1 : Nat), .int .i64 (x.2.2 : Nat)]) w) := fun k x hx w => clA_at k x hx w
  have hsz := clInfo
  have hlen : callsL.length = 10 := rfl
  have B0 : Below w.heap.size w (w.alloc (.cells #[.string ⟨#[]⟩, .int .i64 0, .int .i64 0] 121)) := (Below.refl _ w).alloc (Nat.le_refl _) _
  have Z0 : (w.alloc (.cells #[.string ⟨#[]⟩, .int .i64 0, .int .i64 0] 121)).heap[w.heap.size]? = some (.cells #[.string ⟨#[]⟩, .int .i64 0, .int .i64 0] 121 (0, 0)) := heap_alloc_new w _
  have hg1 := (B0.block _ (lt_of_block hg)).trans hg
  generalize clA = cs at *
  generalize hl : callsL = l at *
  clear hg
  go_enter Tryz.func104, Tryz.ntmps104
  go_wp2_with (refine wpList_load_row rfl 140 _ rfl 0 rfl tt _ fr _ hg1 Tryz.underlying140 rfl hsz ?_)
  go_loopw [7] (fun v wr => ∃ k : Nat, k ≤ 10 ∧ v = .int .i64 (k : Nat) ∧ Hid (∀ j x, j < k → l[j]? = some x → ((x.2.1 : Int) == t) = false) ∧ wr.heap[w.heap.size]? = some (.cells #[.string ⟨#[]⟩, .int .i64 0, .int .i64 0] 121 (0, 0)) ∧ Below w.heap.size w wr) (fun v _ => 10 - (intOf v).toNat)
  case atStart => exact ⟨0, by omega, by go_num, (fun j x hj => by omega : _), Z0, B0⟩
  case round =>
    clear Z0 B0 hg1
    obtain ⟨k, hk, rfl, hin, Z, B⟩ := hrel
    by_cases hlt : k < 10
    · obtain ⟨x, hx⟩ : ∃ x, l[k]? = some x := ⟨l[k]'(by omega), by simp [hlen, hlt]⟩
      have ix := IX.out k x hx
      have hkI : (k : Int) < 10 := by omega
      have hbl := lt_of_block Z
      have Zn := (Below.heap_alloc wr (.cells #[stv x.1, .int .i64 (x.2.1 : Nat), .int .i64 (x.2.2 : Nat)] 121) _ hbl).trans Z
      have Xn : (wr.alloc (.cells #[stv x.1, .int .i64 (x.2.1 : Nat), .int .i64 (x.2.2 : Nat)] 121)).heap[wr.heap.size]? = _ := heap_alloc_new wr _
      have Bn : Below w.heap.size w (wr.alloc (.cells #[stv x.1, .int .i64 (x.2.1 : Nat), .int .i64 (x.2.2 : Nat)] 121)) := B.alloc B.size _
      by_cases hp : ((x.2.1 : Int) == t) = true
      · have fin : l.find? (fun x => (x.2.1 : Int) == t) = some x := find_at hx hp hin.out
        have hp1 : ((x.2.1 : Int) == t) = true := hp
        clear hin hlen IX hk hx hlt B Z hsz hl
        go_upto_region 5 with fail
        generalize wr.alloc (.cells #[stv x.1, .int .i64 (x.2.1 : Nat), .int .i64 (x.2.2 : Nat)] 121) = w3 at *
        generalize wr.heap.size = b7 at *
        have hbz := Blk.set (w := w3) (o := fun _ => 0) (i := 0) (b := w.heap.size) ⟨Zn, rfl⟩ 0 (.string ⟨x.1.toArray⟩)
        have hbz := hbz.set 1 (.int .i64 (x.2.1 : Nat))
        have hbz := hbz.set 2 (.int .i64 (x.2.2 : Nat))
        have BE := (((Bn.setCell (p := ⟨w.heap.size, 0, none⟩) (Nat.le_refl _) (.string ⟨x.1.toArray⟩)).setCell (p := ⟨w.heap.size, 1, none⟩) (Nat.le_refl _) (.int .i64 (x.2.1 : Nat))).setCell (p := ⟨w.heap.size, 2, none⟩) (Nat.le_refl _) (.int .i64 (x.2.2 : Nat)))
        obtain ⟨u0, u1, u2, -⟩ := Blk.cells3 hbz
        obtain ⟨z0, z1, z2, zf⟩ := Blk.cells3 (o := fun _ => 0) (i := 0) ⟨Zn, rfl⟩
        obtain ⟨y0, y1, y2, yf⟩ := Blk.cells3 (o := fun _ => 0) (i := 0) ⟨Xn, rfl⟩
        clear hbz Zn Xn Bn
        go_wp2
        exact bodyPost_ret (v := .tuple #[.agg #[stv x.1, .int .i64 (x.2.1 : Nat), .int .i64 (x.2.2 : Nat)], .bool true]) (by simp [results, Tryz.results104, go_sem, u0, u1, u2]) rfl ⟨by rw [fin]; rfl, BE⟩
      · have hpf : ((x.2.1 : Int) == t) = false := by simpa using hp
        have hin' : Hid (∀ j x, j < k + 1 → l[j]? = some x → ((x.2.1 : Int) == t) = false) := fun j y hj hy => by
          by_cases e : j = k
          · subst e
            rw [hx] at hy
            injection hy with hy
            subst hy
            exact hpf
          · exact hin.out j y (by omega) hy
        have hp1 : ((x.2.1 : Int) == t) = false := hpf
        all_goals
          clear hin hlen IX hx B Z hsz hl
          go_wp2
          go_roundw
          case rel => (try ((repeat apply Exists.intro); refine ⟨?_, rfl⟩)); exact ⟨k + 1, by omega, by go_num, hin', Zn, Bn⟩
          case measure => simp [intOf]; omega
    · obtain rfl : k = 10 := by omega
      have fin : l.find? (fun x => (x.2.1 : Int) == t) = none := find_no fun j y hy => by
        refine hin.out j y ?_ hy
        by_cases hj : j < 10
        · exact hj
        · rw [List.getElem?_eq_none (by omega)] at hy
          cases hy
      clear hin IX hlt hlen hsz hl
      have hbz := Blk.set (w := wr) (o := fun _ => 0) (i := 0) (b := w.heap.size) ⟨Z, rfl⟩ 0 (.string ⟨#[]⟩)
      have hbz := hbz.set 1 (.int .i64 0)
      have hbz := hbz.set 2 (.int .i64 0)
      have BE := (((B.setCell (p := ⟨w.heap.size, 0, none⟩) (Nat.le_refl _) (.string ⟨#[]⟩)).setCell (p := ⟨w.heap.size, 1, none⟩) (Nat.le_refl _) (.int .i64 0)).setCell (p := ⟨w.heap.size, 2, none⟩) (Nat.le_refl _) (.int .i64 0))
      obtain ⟨u0, u1, u2, -⟩ := Blk.cells3 hbz
      obtain ⟨z0, z1, z2, zf⟩ := Blk.cells3 (o := fun _ => 0) (i := 0) ⟨Z, rfl⟩
      clear hbz Z B
      go_wp2
      exact bodyPost_ret (v := .tuple #[.agg #[.string ⟨#[]⟩, .int .i64 0, .int .i64 0], .bool false]) (by simp [results, Tryz.results104, go_sem, u0, u1, u2]) rfl ⟨by rw [fin]; rfl, BE⟩
def quantOf (t : Int) : Option (List UInt8 × Nat) := quantsL.find? fun x => (x.2 : Int) == t
set_option maxRecDepth 100000 in
set_option maxHeartbeats 1000000 in
theorem quantOf_r (t : Int) (w : World) (hO : QnW w) :
    Calls Tryz.prog 127 #[.int .i64 t] w fun e w' => e = .returned (qnF (quantsL.find? (fun x => (x.2 : Int) == t))) ∧ Below w.heap.size w w' := by
  obtain ⟨tt, fr, hg⟩ := hO
  have IX : Hid (∀ (k : Nat) (x : List UInt8 × Nat), quantsL[k]? = some x → ∀ w : World, (Instr.index 151 (.agg qnA) (.int .i64 (k : Nat))).run Tryz.prog w = .ok (.agg #[stv x.1, .int .i64 (x.2 : Nat)]) w) := fun k x hx w => qnA_at k x hx w
  have hsz := qnInfo
  have hlen : quantsL.length = 6 := rfl
  have B0 : Below w.heap.size w (w.alloc (.cells #[.string ⟨#[]⟩, .int .i64 0] 133)) := (Below.refl _ w).alloc (Nat.le_refl _) _
  have Z0 : (w.alloc (.cells #[.string ⟨#[]⟩, .int .i64 0] 133)).heap[w.heap.size]? = some (.cells #[.string ⟨#[]⟩, .int .i64 0] 133 (0, 0)) := heap_alloc_new w _
  have hg1 := (B0.block _ (lt_of_block hg)).trans hg
  generalize qnA = cs at *
  generalize hl : quantsL = l at *
  clear hg
  go_enter Tryz.func127, Tryz.ntmps127
  go_wp2_with (refine wpList_load_row rfl 151 _ rfl 2 rfl tt _ fr _ hg1 Tryz.underlying151 rfl hsz ?_)
  go_loopw [7] (fun v wr => ∃ k : Nat, k ≤ 6 ∧ v = .int .i64 (k : Nat) ∧ Hid (∀ j x, j < k → l[j]? = some x → ((x.2 : Int) == t) = false) ∧ wr.heap[w.heap.size]? = some (.cells #[.string ⟨#[]⟩, .int .i64 0] 133 (0, 0)) ∧ Below w.heap.size w wr) (fun v _ => 6 - (intOf v).toNat)
  case atStart => exact ⟨0, by omega, by go_num, (fun j x hj => by omega : _), Z0, B0⟩
  case round =>
    clear Z0 B0 hg1
    obtain ⟨k, hk, rfl, hin, Z, B⟩ := hrel
    by_cases hlt : k < 6
    · obtain ⟨x, hx⟩ : ∃ x, l[k]? = some x := ⟨l[k]'(by omega), by simp [hlen, hlt]⟩
      have ix := IX.out k x hx
      have hkI : (k : Int) < 6 := by omega
      have hbl := lt_of_block Z
      have Zn := (Below.heap_alloc wr (.cells #[stv x.1, .int .i64 (x.2 : Nat)] 133) _ hbl).trans Z
      have Xn : (wr.alloc (.cells #[stv x.1, .int .i64 (x.2 : Nat)] 133)).heap[wr.heap.size]? = _ := heap_alloc_new wr _
      have Bn : Below w.heap.size w (wr.alloc (.cells #[stv x.1, .int .i64 (x.2 : Nat)] 133)) := B.alloc B.size _
      by_cases hp : ((x.2 : Int) == t) = true
      · have fin : l.find? (fun x => (x.2 : Int) == t) = some x := find_at hx hp hin.out
        have hp1 : ((x.2 : Int) == t) = true := hp
        clear hin hlen IX hk hx hlt B Z hsz hl
        go_upto_region 5 with fail
        generalize wr.alloc (.cells #[stv x.1, .int .i64 (x.2 : Nat)] 133) = w3 at *
        generalize wr.heap.size = b7 at *
        have hbz := Blk.set (w := w3) (o := fun _ => 0) (i := 0) (b := w.heap.size) ⟨Zn, rfl⟩ 0 (.string ⟨x.1.toArray⟩)
        have hbz := hbz.set 1 (.int .i64 (x.2 : Nat))
        have BE := ((Bn.setCell (p := ⟨w.heap.size, 0, none⟩) (Nat.le_refl _) (.string ⟨x.1.toArray⟩)).setCell (p := ⟨w.heap.size, 1, none⟩) (Nat.le_refl _) (.int .i64 (x.2 : Nat)))
        obtain ⟨u0, u1, -⟩ := Blk.cells2 hbz
        obtain ⟨z0, z1, zf⟩ := Blk.cells2 (o := fun _ => 0) (i := 0) ⟨Zn, rfl⟩
        obtain ⟨y0, y1, yf⟩ := Blk.cells2 (o := fun _ => 0) (i := 0) ⟨Xn, rfl⟩
        clear hbz Zn Xn Bn
        go_wp2
        exact bodyPost_ret (v := .tuple #[.agg #[stv x.1, .int .i64 (x.2 : Nat)], .bool true]) (by simp [results, Tryz.results127, go_sem, u0, u1]) rfl ⟨by rw [fin]; rfl, BE⟩
      · have hpf : ((x.2 : Int) == t) = false := by simpa using hp
        have hin' : Hid (∀ j x, j < k + 1 → l[j]? = some x → ((x.2 : Int) == t) = false) := fun j y hj hy => by
          by_cases e : j = k
          · subst e
            rw [hx] at hy
            injection hy with hy
            subst hy
            exact hpf
          · exact hin.out j y (by omega) hy
        have hp1 : ((x.2 : Int) == t) = false := hpf
        all_goals
          clear hin hlen IX hx B Z hsz hl
          go_wp2
          go_roundw
          case rel => (try ((repeat apply Exists.intro); refine ⟨?_, rfl⟩)); exact ⟨k + 1, by omega, by go_num, hin', Zn, Bn⟩
          case measure => simp [intOf]; omega
    · obtain rfl : k = 6 := by omega
      have fin : l.find? (fun x => (x.2 : Int) == t) = none := find_no fun j y hy => by
        refine hin.out j y ?_ hy
        by_cases hj : j < 6
        · exact hj
        · rw [List.getElem?_eq_none (by omega)] at hy
          cases hy
      clear hin IX hlt hlen hsz hl
      have hbz := Blk.set (w := wr) (o := fun _ => 0) (i := 0) (b := w.heap.size) ⟨Z, rfl⟩ 0 (.string ⟨#[]⟩)
      have hbz := hbz.set 1 (.int .i64 0)
      have BE := ((B.setCell (p := ⟨w.heap.size, 0, none⟩) (Nat.le_refl _) (.string ⟨#[]⟩)).setCell (p := ⟨w.heap.size, 1, none⟩) (Nat.le_refl _) (.int .i64 0))
      obtain ⟨u0, u1, -⟩ := Blk.cells2 hbz
      obtain ⟨z0, z1, zf⟩ := Blk.cells2 (o := fun _ => 0) (i := 0) ⟨Z, rfl⟩
      clear hbz Z B
      go_wp2
      exact bodyPost_ret (v := .tuple #[.agg #[.string ⟨#[]⟩, .int .i64 0], .bool false]) (by simp [results, Tryz.results127, go_sem, u0, u1]) rfl ⟨by rw [fin]; rfl, BE⟩
end Go.Proofs.YtafnlhnenmpfoaaGreatDoor
namespace Go.Proofs.YtafnlhnenmpfoaaGreatDoor
open Go.ChangeShapes Go.WideShapes Go.ChangeAt Go.RowKit
set_option linter.unusedVariables false
set_option linter.unusedSimpArgs false

def isSetK (k : Int) : Bool := k == 22 || k == 23 || k == 24 || k == 25
def rowOf (k : Int) : Nat := if k == 19 || k == 21 then 0 else if k == 7 then 3 else if k == 6 then 7 else match opOf k with | some x => x.2.2.1 | none => 8
def numB (k n : Int) : Bool := if k == 1 || k == 3 then decide (0 ≤ n) else if k == 2 then n == 0 || n == 1 else if k == 20 then (callOf n).isSome else if k == 21 then (quantOf n).isSome else n == 0
def namB (k : Int) (nm : List UInt8) : Bool := if k == 4 || k == 23 || k == 21 then nameB nm else nm == []
def kidB (k n : Int) (m : Nat) : Bool := if k == 1 || k == 2 || k == 3 || k == 4 || k == 22 || k == 23 then (m : Int) == 0 else if k == 6 || k == 7 || k == 24 then (m : Int) == 1 else if k == 21 then (m : Int) == 2 else if k == 19 then (m : Int) == 3 else if k == 20 then (match callOf n with | some x => (m : Int) == (x.2.2 : Nat) | none => (m : Int) == 0) else if k == 25 then true else (opOf k).isSome && (m : Int) == 2
theorem bne {k : Int} {c : Int} (h : k ≠ c) : (k == c) = false := by rw [beq_eq_false_iff_ne]; exact h
set_option maxRecDepth 100000 in
theorem isSet_r (k n : Int) (nm : List UInt8) (ao : Option Addr) (len cap : Nat) (a : Int) (w : World) :
    Calls Tryz.prog 60 #[.agg #[.int .i64 k, .int .i64 n, stv nm, .slice ao len cap, .int .i64 a]] w fun e w' => e = .returned (.bool (isSetK k)) ∧ Below w.heap.size w w' := by
  have B0 : Below w.heap.size w (w.alloc (.cells #[.int .i64 k, .int .i64 n, stv nm, .slice ao len cap, .int .i64 a] 25)) := (Below.refl _ w).alloc (Nat.le_refl _) _
  by_cases h22 : k = 22
  · subst h22
    go_enter Tryz.func60, Tryz.ntmps60
    go_wp2
    go_ret
    exact ⟨rfl, B0⟩
  have b22 := bne h22
  by_cases h23 : k = 23
  · subst h23
    go_enter Tryz.func60, Tryz.ntmps60
    go_wp2
    go_ret
    exact ⟨rfl, B0⟩
  have b23 := bne h23
  by_cases h24 : k = 24
  · subst h24
    go_enter Tryz.func60, Tryz.ntmps60
    go_wp2
    go_ret
    exact ⟨rfl, B0⟩
  have b24 := bne h24
  by_cases h25 : k = 25
  · subst h25
    go_enter Tryz.func60, Tryz.ntmps60
    go_wp2
    go_ret
    exact ⟨rfl, B0⟩
  have b25 := bne h25
  have E : isSetK k = false := by simp [isSetK, b22, b23, b24, b25]
  rw [E]
  go_enter Tryz.func60, Tryz.ntmps60
  go_wp2
  go_ret
  exact ⟨rfl, B0⟩
set_option maxRecDepth 100000 in
theorem rowOf_r (k : Int) (w : World) (hO : OpW w) :
    Calls Tryz.prog 99 #[.int .i64 k] w fun e w' => e = .returned (.int .i64 (rowOf k : Nat)) ∧ Below w.heap.size w w' := by
  by_cases h19 : k = 19
  · subst h19
    go_enter Tryz.func99, Tryz.ntmps99
    go_wp2
    go_ret
    exact ⟨rfl, Below.refl _ _⟩
  have b19 := bne h19
  by_cases h21 : k = 21
  · subst h21
    go_enter Tryz.func99, Tryz.ntmps99
    go_wp2
    go_ret
    exact ⟨rfl, Below.refl _ _⟩
  have b21 := bne h21
  by_cases h7 : k = 7
  · subst h7
    go_enter Tryz.func99, Tryz.ntmps99
    go_wp2
    go_ret
    exact ⟨rfl, Below.refl _ _⟩
  have b7 := bne h7
  by_cases h6 : k = 6
  · subst h6
    go_enter Tryz.func99, Tryz.ntmps99
    go_wp2
    go_ret
    exact ⟨rfl, Below.refl _ _⟩
  have b6 := bne h6
  have c1 := opOf_r k w hO
  cases hz : opOf k with
  | some z =>
    rw [show opsL.find? (fun x => (x.2.1 : Int) == k) = some z from hz] at c1
    unfold opF at c1
    simp only at c1
    have E : rowOf k = z.2.2.1 := by simp [rowOf, b19, b21, b7, b6, hz]
    rw [E]
    clear hz E
    go_enter Tryz.func99, Tryz.ntmps99
    go_wp2_with fail
    refine c1.mono ?_
    rintro e w1 ⟨rfl, b1⟩
    have B1 := b1.alloc b1.size (.cells #[stv z.1, .int .i64 (z.2.1 : Nat), .int .i64 (z.2.2.1 : Nat), .int .i64 (z.2.2.2.1 : Nat), .int .i64 (z.2.2.2.2 : Nat)] 137)
    clear c1
    go_wp2
    go_ret
    exact ⟨rfl, B1⟩
  | none =>
    rw [show opsL.find? (fun x => (x.2.1 : Int) == k) = none from hz] at c1
    unfold opF at c1
    simp only at c1
    have E : rowOf k = 8 := by simp [rowOf, b19, b21, b7, b6, hz]
    rw [E]
    clear hz E
    go_enter Tryz.func99, Tryz.ntmps99
    go_wp2_with fail
    refine c1.mono ?_
    rintro e w1 ⟨rfl, b1⟩
    have B1 := b1.alloc b1.size (.cells #[.string ⟨#[]⟩, .int .i64 0, .int .i64 0, .int .i64 0, .int .i64 0] 137)
    clear c1
    go_wp2
    go_ret
    exact ⟨rfl, B1⟩
set_option maxRecDepth 100000 in
set_option maxHeartbeats 1000000 in
theorem number_r2 (k n : Int) (nm : List UInt8) (ao : Option Addr) (len cap : Nat) (a : Int) (w : World) (hC : ClW w) (hQ : QnW w) :
    Calls Tryz.prog 96 #[.agg #[.int .i64 k, .int .i64 n, stv nm, .slice ao len cap, .int .i64 a]] w fun e w' => e = .returned (.bool (numB k n)) ∧ Below w.heap.size w w' := by
  have B0 : Below w.heap.size w (w.alloc (.cells #[.int .i64 k, .int .i64 n, stv nm, .slice ao len cap, .int .i64 a] 25)) := (Below.refl _ w).alloc (Nat.le_refl _) _
  by_cases h1 : k = 1
  · subst h1
    have E : numB 1 n = decide (0 ≤ n) := rfl
    rw [E]
    go_enter Tryz.func96, Tryz.ntmps96
    go_wp2
    go_ret
    exact ⟨ret_bool (by simp), B0⟩
  have b1 := bne h1
  by_cases h3 : k = 3
  · subst h3
    have E : numB 3 n = decide (0 ≤ n) := rfl
    rw [E]
    go_enter Tryz.func96, Tryz.ntmps96
    go_wp2
    go_ret
    exact ⟨ret_bool (by simp), B0⟩
  have b3 := bne h3
  by_cases h2 : k = 2
  · subst h2
    have E : numB 2 n = (n == 0 || n == 1) := rfl
    rw [E]
    go_enter Tryz.func96, Tryz.ntmps96
    cases hn0 : (n == 0) with
    | true => go_wp2; go_ret; exact ⟨ret_bool (by simp), B0⟩
    | false => go_wp2; go_ret; exact ⟨ret_bool (by simp), B0⟩
  have b2 := bne h2
  by_cases h20 : k = 20
  · subst h20
    have c1 := callOf_r n (w.alloc (.cells #[.int .i64 20, .int .i64 n, stv nm, .slice ao len cap, .int .i64 a] 25)) (hC.below B0)
    cases hz : callOf n with
    | some z =>
      rw [show callsL.find? (fun x => (x.2.1 : Int) == n) = some z from hz] at c1
      unfold clF at c1
      simp only at c1
      have E : numB 20 n = true := by simp [numB, hz]
      rw [E]
      clear hz E
      go_enter Tryz.func96, Tryz.ntmps96
      go_wp2_with fail
      refine c1.mono ?_
      rintro e w1 ⟨rfl, b1⟩
      have B1 := (B0.trans (b1.mono B0.size)).alloc (Nat.le_trans B0.size b1.size) (.cells #[stv z.1, .int .i64 (z.2.1 : Nat), .int .i64 (z.2.2 : Nat)] 121)
      clear c1
      go_wp2
      go_ret
      exact ⟨ret_bool (by simp), B1⟩
    | none =>
      rw [show callsL.find? (fun x => (x.2.1 : Int) == n) = none from hz] at c1
      unfold clF at c1
      simp only at c1
      have E : numB 20 n = false := by simp [numB, hz]
      rw [E]
      clear hz E
      go_enter Tryz.func96, Tryz.ntmps96
      go_wp2_with fail
      refine c1.mono ?_
      rintro e w1 ⟨rfl, b1⟩
      have B1 := (B0.trans (b1.mono B0.size)).alloc (Nat.le_trans B0.size b1.size) (.cells #[.string ⟨#[]⟩, .int .i64 0, .int .i64 0] 121)
      clear c1
      go_wp2
      go_ret
      exact ⟨ret_bool (by simp), B1⟩
  have b20 := bne h20
  by_cases h21 : k = 21
  · subst h21
    have c1 := quantOf_r n (w.alloc (.cells #[.int .i64 21, .int .i64 n, stv nm, .slice ao len cap, .int .i64 a] 25)) (hQ.below B0)
    cases hz : quantOf n with
    | some z =>
      rw [show quantsL.find? (fun x => (x.2 : Int) == n) = some z from hz] at c1
      unfold qnF at c1
      simp only at c1
      have E : numB 21 n = true := by simp [numB, hz]
      rw [E]
      clear hz E
      go_enter Tryz.func96, Tryz.ntmps96
      go_wp2_with fail
      refine c1.mono ?_
      rintro e w1 ⟨rfl, b1⟩
      have B1 := (B0.trans (b1.mono B0.size)).alloc (Nat.le_trans B0.size b1.size) (.cells #[stv z.1, .int .i64 (z.2 : Nat)] 133)
      clear c1
      go_wp2
      go_ret
      exact ⟨ret_bool (by simp), B1⟩
    | none =>
      rw [show quantsL.find? (fun x => (x.2 : Int) == n) = none from hz] at c1
      unfold qnF at c1
      simp only at c1
      have E : numB 21 n = false := by simp [numB, hz]
      rw [E]
      clear hz E
      go_enter Tryz.func96, Tryz.ntmps96
      go_wp2_with fail
      refine c1.mono ?_
      rintro e w1 ⟨rfl, b1⟩
      have B1 := (B0.trans (b1.mono B0.size)).alloc (Nat.le_trans B0.size b1.size) (.cells #[.string ⟨#[]⟩, .int .i64 0] 133)
      clear c1
      go_wp2
      go_ret
      exact ⟨ret_bool (by simp), B1⟩
  have b21 := bne h21
  have E : numB k n = (n == 0) := by simp [numB, b1, b3, b2, b20, b21]
  rw [E]
  go_enter Tryz.func96, Tryz.ntmps96
  go_wp2
  go_ret
  exact ⟨ret_bool (by simp), B0⟩
set_option maxRecDepth 100000 in
set_option maxHeartbeats 1000000 in
theorem name_r2 (k n : Int) (nm : List UInt8) (ao : Option Addr) (len cap : Nat) (a : Int) (w : World) (hW : Wd w) (hl : nm.length ≤ maxLen) :
    Calls Tryz.prog 97 #[.agg #[.int .i64 k, .int .i64 n, stv nm, .slice ao len cap, .int .i64 a]] w fun e w' => e = .returned (.bool (namB k nm)) ∧ Below w.heap.size w w' := by
  have B0 : Below w.heap.size w (w.alloc (.cells #[.int .i64 k, .int .i64 n, stv nm, .slice ao len cap, .int .i64 a] 25)) := (Below.refl _ w).alloc (Nat.le_refl _) _
  by_cases h4 : k = 4
  · subst h4
    have c1 := name_c ⟨nm.toArray⟩ (w.alloc (.cells #[.int .i64 4, .int .i64 n, stv nm, .slice ao len cap, .int .i64 a] 25)) (hW.below B0) (by show nm.toArray.size ≤ maxLen; simpa using hl)
    have E : namB 4 nm = nameB ((⟨nm.toArray⟩ : ByteArray).data.toList) := rfl
    rw [E]
    clear E
    go_enter Tryz.func97, Tryz.ntmps97
    go_wp2_with fail
    refine c1.mono ?_
    rintro e w1 ⟨rfl, b1⟩
    have B1 := B0.trans (b1.mono B0.size)
    clear c1
    go_wp2
    go_ret
    exact ⟨rfl, B1⟩
  have b4 := bne h4
  by_cases h23 : k = 23
  · subst h23
    have c1 := name_c ⟨nm.toArray⟩ (w.alloc (.cells #[.int .i64 23, .int .i64 n, stv nm, .slice ao len cap, .int .i64 a] 25)) (hW.below B0) (by show nm.toArray.size ≤ maxLen; simpa using hl)
    have E : namB 23 nm = nameB ((⟨nm.toArray⟩ : ByteArray).data.toList) := rfl
    rw [E]
    clear E
    go_enter Tryz.func97, Tryz.ntmps97
    go_wp2_with fail
    refine c1.mono ?_
    rintro e w1 ⟨rfl, b1⟩
    have B1 := B0.trans (b1.mono B0.size)
    clear c1
    go_wp2
    go_ret
    exact ⟨rfl, B1⟩
  have b23 := bne h23
  by_cases h21 : k = 21
  · subst h21
    have c1 := name_c ⟨nm.toArray⟩ (w.alloc (.cells #[.int .i64 21, .int .i64 n, stv nm, .slice ao len cap, .int .i64 a] 25)) (hW.below B0) (by show nm.toArray.size ≤ maxLen; simpa using hl)
    have E : namB 21 nm = nameB ((⟨nm.toArray⟩ : ByteArray).data.toList) := rfl
    rw [E]
    clear E
    go_enter Tryz.func97, Tryz.ntmps97
    go_wp2_with fail
    refine c1.mono ?_
    rintro e w1 ⟨rfl, b1⟩
    have B1 := B0.trans (b1.mono B0.size)
    clear c1
    go_wp2
    go_ret
    exact ⟨rfl, B1⟩
  have b21 := bne h21
  have E : namB k nm = (nm == []) := by simp [namB, b4, b23, b21]
  rw [E]
  go_enter Tryz.func97, Tryz.ntmps97
  go_wp2
  go_ret
  exact ⟨ret_bool (by simp), B0⟩
set_option maxRecDepth 100000 in
set_option maxHeartbeats 1000000 in
theorem kids_r (k n : Int) (nm : List UInt8) (ao : Option Addr) (len cap : Nat) (a : Int) (w : World) (hC : ClW w) (hO : OpW w) :
    Calls Tryz.prog 98 #[.agg #[.int .i64 k, .int .i64 n, stv nm, .slice ao len cap, .int .i64 a]] w fun e w' => e = .returned (.bool (kidB k n len)) ∧ Below w.heap.size w w' := by
  have B0 : Below w.heap.size w (w.alloc (.cells #[.int .i64 k, .int .i64 n, stv nm, .slice ao len cap, .int .i64 a] 25)) := (Below.refl _ w).alloc (Nat.le_refl _) _
  by_cases h1 : k = 1
  · subst h1
    have E : kidB 1 n len = ((len : Int) == 0) := rfl
    rw [E]
    go_enter Tryz.func98, Tryz.ntmps98
    go_wp2
    go_ret
    exact ⟨ret_bool (by simp), B0⟩
  have b1 := bne h1
  by_cases h2 : k = 2
  · subst h2
    have E : kidB 2 n len = ((len : Int) == 0) := rfl
    rw [E]
    go_enter Tryz.func98, Tryz.ntmps98
    go_wp2
    go_ret
    exact ⟨ret_bool (by simp), B0⟩
  have b2 := bne h2
  by_cases h3 : k = 3
  · subst h3
    have E : kidB 3 n len = ((len : Int) == 0) := rfl
    rw [E]
    go_enter Tryz.func98, Tryz.ntmps98
    go_wp2
    go_ret
    exact ⟨ret_bool (by simp), B0⟩
  have b3 := bne h3
  by_cases h4 : k = 4
  · subst h4
    have E : kidB 4 n len = ((len : Int) == 0) := rfl
    rw [E]
    go_enter Tryz.func98, Tryz.ntmps98
    go_wp2
    go_ret
    exact ⟨ret_bool (by simp), B0⟩
  have b4 := bne h4
  by_cases h22 : k = 22
  · subst h22
    have E : kidB 22 n len = ((len : Int) == 0) := rfl
    rw [E]
    go_enter Tryz.func98, Tryz.ntmps98
    go_wp2
    go_ret
    exact ⟨ret_bool (by simp), B0⟩
  have b22 := bne h22
  by_cases h23 : k = 23
  · subst h23
    have E : kidB 23 n len = ((len : Int) == 0) := rfl
    rw [E]
    go_enter Tryz.func98, Tryz.ntmps98
    go_wp2
    go_ret
    exact ⟨ret_bool (by simp), B0⟩
  have b23 := bne h23
  by_cases h6 : k = 6
  · subst h6
    have E : kidB 6 n len = ((len : Int) == 1) := rfl
    rw [E]
    go_enter Tryz.func98, Tryz.ntmps98
    go_wp2
    go_ret
    exact ⟨ret_bool (by simp), B0⟩
  have b6 := bne h6
  by_cases h7 : k = 7
  · subst h7
    have E : kidB 7 n len = ((len : Int) == 1) := rfl
    rw [E]
    go_enter Tryz.func98, Tryz.ntmps98
    go_wp2
    go_ret
    exact ⟨ret_bool (by simp), B0⟩
  have b7 := bne h7
  by_cases h24 : k = 24
  · subst h24
    have E : kidB 24 n len = ((len : Int) == 1) := rfl
    rw [E]
    go_enter Tryz.func98, Tryz.ntmps98
    go_wp2
    go_ret
    exact ⟨ret_bool (by simp), B0⟩
  have b24 := bne h24
  by_cases h21 : k = 21
  · subst h21
    have E : kidB 21 n len = ((len : Int) == 2) := rfl
    rw [E]
    go_enter Tryz.func98, Tryz.ntmps98
    go_wp2
    go_ret
    exact ⟨ret_bool (by simp), B0⟩
  have b21 := bne h21
  by_cases h19 : k = 19
  · subst h19
    have E : kidB 19 n len = ((len : Int) == 3) := rfl
    rw [E]
    go_enter Tryz.func98, Tryz.ntmps98
    go_wp2
    go_ret
    exact ⟨ret_bool (by simp), B0⟩
  have b19 := bne h19
  by_cases h20 : k = 20
  · subst h20
    have c1 := callOf_r n (w.alloc (.cells #[.int .i64 20, .int .i64 n, stv nm, .slice ao len cap, .int .i64 a] 25)) (hC.below B0)
    cases hz : callOf n with
    | some z =>
      rw [show callsL.find? (fun x => (x.2.1 : Int) == n) = some z from hz] at c1
      unfold clF at c1
      simp only at c1
      have E : kidB 20 n len = ((len : Int) == (z.2.2 : Nat)) := by simp [kidB, hz]
      rw [E]
      clear hz E
      go_enter Tryz.func98, Tryz.ntmps98
      go_wp2_with fail
      refine c1.mono ?_
      rintro e w1 ⟨rfl, b1⟩
      have B1 := (B0.trans (b1.mono B0.size)).alloc (Nat.le_trans B0.size b1.size) (.cells #[stv z.1, .int .i64 (z.2.1 : Nat), .int .i64 (z.2.2 : Nat)] 121)
      clear c1
      go_wp2
      go_ret
      exact ⟨ret_bool (by simp), B1⟩
    | none =>
      rw [show callsL.find? (fun x => (x.2.1 : Int) == n) = none from hz] at c1
      unfold clF at c1
      simp only at c1
      have E : kidB 20 n len = ((len : Int) == 0) := by simp [kidB, hz]
      rw [E]
      clear hz E
      go_enter Tryz.func98, Tryz.ntmps98
      go_wp2_with fail
      refine c1.mono ?_
      rintro e w1 ⟨rfl, b1⟩
      have B1 := (B0.trans (b1.mono B0.size)).alloc (Nat.le_trans B0.size b1.size) (.cells #[.string ⟨#[]⟩, .int .i64 0, .int .i64 0] 121)
      clear c1
      go_wp2
      go_ret
      exact ⟨ret_bool (by simp), B1⟩
  have b20 := bne h20
  by_cases h25 : k = 25
  · subst h25
    have E : kidB 25 n len = true := rfl
    rw [E]
    go_enter Tryz.func98, Tryz.ntmps98
    go_wp2
    go_ret
    exact ⟨ret_bool (by simp), B0⟩
  have b25 := bne h25
  have c1 := opOf_r k (w.alloc (.cells #[.int .i64 k, .int .i64 n, stv nm, .slice ao len cap, .int .i64 a] 25)) (hO.below B0)
  cases hz : opOf k with
  | some z =>
    rw [show opsL.find? (fun x => (x.2.1 : Int) == k) = some z from hz] at c1
    unfold opF at c1
    simp only at c1
    have E : kidB k n len = ((len : Int) == 2) := by simp [kidB, b1, b2, b3, b4, b22, b23, b6, b7, b24, b21, b19, b20, b25, hz]
    rw [E]
    clear hz E
    go_enter Tryz.func98, Tryz.ntmps98
    go_wp2_with fail
    refine c1.mono ?_
    rintro e w1 ⟨rfl, b1⟩
    have B1 := (B0.trans (b1.mono B0.size)).alloc (Nat.le_trans B0.size b1.size) (.cells #[stv z.1, .int .i64 (z.2.1 : Nat), .int .i64 (z.2.2.1 : Nat), .int .i64 (z.2.2.2.1 : Nat), .int .i64 (z.2.2.2.2 : Nat)] 137)
    clear c1
    go_wp2
    go_ret
    exact ⟨ret_bool (by simp), B1⟩
  | none =>
    rw [show opsL.find? (fun x => (x.2.1 : Int) == k) = none from hz] at c1
    unfold opF at c1
    simp only at c1
    have E : kidB k n len = false := by simp [kidB, b1, b2, b3, b4, b22, b23, b6, b7, b24, b21, b19, b20, b25, hz]
    rw [E]
    clear hz E
    go_enter Tryz.func98, Tryz.ntmps98
    go_wp2_with fail
    refine c1.mono ?_
    rintro e w1 ⟨rfl, b1⟩
    have B1 := (B0.trans (b1.mono B0.size)).alloc (Nat.le_trans B0.size b1.size) (.cells #[.string ⟨#[]⟩, .int .i64 0, .int .i64 0, .int .i64 0, .int .i64 0] 137)
    clear c1
    go_wp2
    go_ret
    exact ⟨ret_bool (by simp), B1⟩
end Go.Proofs.YtafnlhnenmpfoaaGreatDoor
