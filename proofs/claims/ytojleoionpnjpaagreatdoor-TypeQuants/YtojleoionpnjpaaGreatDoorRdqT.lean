/- The document's own Parse. -/
import Derived.Test.YtojleoionpnjpaaGreatDoorSynQ
namespace Go.Proofs.YtojleoionpnjpaaGreatDoor
open Go.ChangeShapes Go.WideShapes Go.ChangeAt Go.RowKit
set_option linter.unusedVariables false
set_option linter.unusedSimpArgs false

theorem QS.bad5 {w : World} {rb o q er a : Nat} {all : List Tk} (h : QS w rb all o q (.inl (er, a))) : ((er : Int) == 0) = false ∧ w.cell? ⟨rb, 4, none⟩ = some (.int .i64 (er : Nat)) ∧ w.cell? ⟨rb, 5, none⟩ = some (.int .i64 (a : Nat)) := by
  obtain ⟨i, o', q', h1, h2, h3⟩ := h
  obtain ⟨_, _, _, _, _, _, _, _, _, _, _, c4, c5, hf0⟩ := h1.next (List.getElem?_eq_getElem h2)
  exact ⟨by simp; omega, c4, c5⟩
/-- A reader that begins. -/
theorem QS.new {w : World} {g cap0 : Nat} {ts : List Tk} (hg : g < w.heap.size) (hc : ∀ j u, (tcells ts)[j]? = some u → w.cell? ⟨g, j, none⟩ = some u) (hl : ts.length ≤ 3000) (hc1 : ts.length ≤ cap0) (hc2 : cap0 ≤ maxLen) (hw : WFT ts) :
    QS (w.alloc (.cells #[.slice (some ⟨g, 0, none⟩) ts.length cap0, .int .i64 0, .int .i64 0, .int .i64 0, .int .i64 0, .int .i64 0] 43)) w.heap.size ts 0 0 (.inr ts) :=
  ⟨0, 0, ⟨g, cap0, heap_alloc_new w _, hg, fun j u hu => (((Below.refl _ w).alloc (Nat.le_refl _) _).cell (p := ⟨g, j, none⟩) hg).trans (hc j u hu), hl, hc1, hc2⟩, rfl, hw, by omega, by omega⟩
theorem own_cells {w : World} {b0 : Nat} {v : Value} {ts : List Tk} (hT : w.ownsRow b0 46 4 v ts.length (tcells ts)) (h0 : 0 < ts.length) : ∃ g cap, v = .slice (some ⟨g, 0, none⟩) ts.length cap ∧ g < w.heap.size ∧ ts.length ≤ cap ∧ cap ≤ maxLen ∧ ∀ j u, (tcells ts)[j]? = some u → w.cell? ⟨g, j, none⟩ = some u := by
  have r0 : Row w (fun _ => 0) 0 46 4 v ts.length (tcells ts) := ⟨ownsRow_base0 hT, fun _ _ => rfl⟩
  obtain ⟨g, cap, rfl, -, hc1, hc2, hg, hcell, -⟩ := r0.pos h0
  refine ⟨g, cap, rfl, hg, hc1, hc2, fun j u hu => ?_⟩
  rw [hcell j ?_]
  · exact hu
  · have hlen := r0.len
    rw [← hlen]
    by_cases hj : j < (tcells ts).length
    · exact hj
    · rw [List.getElem?_eq_none (by omega)] at hu
      cases hu
/-- What the whole reader makes of a state. -/
theorem read_bad {n : Nat} {ts : List Tk} {X : Ex} {er a : Nat} (hn : Nou (partF n 1 0 0) (.inr ts)) (Q : Qd (partF n 1 0 0) (.inr ts) X (.inl (er, a))) : readF n ts = .bad er a := by
  have h1 := Q.1
  simp only [onw] at h1
  unfold readF
  cases hp : partF n 1 0 0 ts using Rs.on with
  | out => exact absurd hp (hn ts rfl)
  | bad e2 a2 =>
    rw [hp] at h1
    simp only [stp] at h1
    injection h1 with h1
    injection h1 with h1 h2
    subst h1 h2
    rfl
  | ok y t => rw [hp] at h1; cases h1
theorem read_good {n : Nat} {ts : List Tk} {X : Ex} {y : Tk} {r : List Tk} (hn : Nou (partF n 1 0 0) (.inr ts)) (Q : Qd (partF n 1 0 0) (.inr ts) X (.inr (y :: r))) : readF n ts = if y.k = 0 then .ok X (y :: r) else .bad 120 y.a := by
  have h1 := Q.1
  simp only [onw] at h1
  unfold readF
  cases hp : partF n 1 0 0 ts using Rs.on with
  | out => exact absurd hp (hn ts rfl)
  | bad e2 a2 => rw [hp] at h1; cases h1
  | ok z t =>
    rw [hp] at h1
    simp only [stp] at h1
    injection h1 with h1
    subst h1
    rw [Q.2 ts z _ rfl hp]
    rfl
set_option maxRecDepth 100000 in
set_option maxHeartbeats 2000000 in
theorem parse_q (s : ByteArray) (w : World) (hs : s.size ≤ maxLen) :
    Calls Tryz.prog 6 #[.string s] w (PostR w (parseA s.data.toList)) := by
  obtain ⟨W, hPW⟩ : ∃ W, W = parseA s.data.toList := ⟨_, rfl⟩
  rw [← hPW]
  have HW : Hid (W = parseA s.data.toList) := hPW
  have hn : W ≠ .out := by rw [hPW]; exact parse_fine _
  have B0 : Below w.heap.size w (w.alloc exZ) := (Below.refl _ w).alloc (Nat.le_refl _) _
  have Z0 : (w.alloc exZ).heap[w.heap.size]? = some exZ := heap_alloc_new w _
  have hs0 : w.heap.size < (w.alloc exZ).heap.size := by simp
  have c1 := rscan_c s (w.alloc exZ) hs
  clear hPW
  go_enter Tryz.func6, Tryz.ntmps6
  go_wp2_with fail
  refine c1.mono ?_
  rintro e w1 ⟨v, er, at0, rfl, hO, b1⟩
  have B1 : Below w.heap.size w w1 := B0.trans (b1.mono (by omega))
  have Z1 := (b1.block _ hs0).trans Z0
  have hz1 : w.heap.size < w1.heap.size := lt_of_block Z1
  clear c1 b1 Z0 B0
  rcases hO with ⟨e, p, hR, rfl, rfl, rfl⟩ | ⟨ts, hR, rfl, rfl, hown⟩
  · have he := scan_err_pos hR
    have heI : ((e : Int) == 0) = false := by rw [beq_eq_false_iff_ne]; omega
    have heI2 : ((e : Int) != 0) = true := by simpa using heI
    have FIN : Hid (W = .bad e p) := by show W = _; rw [HW.out]; unfold parseA; rw [hR]
    have B9 := ((((B1.setCell (p := ⟨w.heap.size, 0, none⟩) (Nat.le_refl _) (.int .i64 0)).setCell (p := ⟨w.heap.size, 1, none⟩) (Nat.le_refl _) (.int .i64 0)).setCell (p := ⟨w.heap.size, 2, none⟩) (Nat.le_refl _) (.string ⟨#[]⟩)).setCell (p := ⟨w.heap.size, 3, none⟩) (Nat.le_refl _) (.slice none 0 0)).setCell (p := ⟨w.heap.size, 4, none⟩) (Nat.le_refl _) (.int .i64 0)
    have ZE := set5k (.int .i64 0) (.int .i64 0) (.string ⟨#[]⟩) (.slice none 0 0) (.int .i64 0) Z1
    have HU : Hid (∃ wz, wz = (World.setCell (World.setCell (World.setCell (World.setCell (World.setCell w1 ⟨w.heap.size, 0, none⟩ (.int .i64 0)) ⟨w.heap.size, 1, none⟩ (.int .i64 0)) ⟨w.heap.size, 2, none⟩ (.string ⟨#[]⟩)) ⟨w.heap.size, 3, none⟩ (.slice none 0 0)) ⟨w.heap.size, 4, none⟩ (.int .i64 0)) ∧ wz.cell? ⟨w.heap.size, 0, none⟩ = some (.int .i64 0) ∧ wz.cell? ⟨w.heap.size, 1, none⟩ = some (.int .i64 0) ∧ wz.cell? ⟨w.heap.size, 2, none⟩ = some (.string ⟨#[]⟩) ∧ wz.cell? ⟨w.heap.size, 3, none⟩ = some (.slice none 0 0) ∧ wz.cell? ⟨w.heap.size, 4, none⟩ = some (.int .i64 0) ∧ Below w.heap.size w wz) := by
      obtain ⟨u0, u1, u2, u3, u4, -⟩ := box5 ZE
      exact ⟨_, rfl, u0, u1, u2, u3, u4, B9⟩
    obtain ⟨z0, z1, z2, z3, z4, zf⟩ := box5 Z1
    clear ZE B9
    clear HW hR B1 Z1 he
    go_wp2
    obtain ⟨wz, hwz, u0, u1, u2, u3, u4, BZ⟩ := HU.out
    clear HU
    rw [← hwz]
    clear hwz
    exact bodyPost_ret (v := .tuple #[exV noEx none 0, .int .i64 (e : Nat), .int .i64 (p : Nat)]) (by simp [results, Tryz.results6, go_sem, u0, u1, u2, u3, u4, exV, noEx, Fs.len]) rfl (by rw [FIN.out]; exact ⟨rfl, BZ⟩)
  · have hso := scan_ok hR
    have hPW : W = readF 30000 ts := by rw [HW.out]; unfold parseA; rw [hR]
    have HW2 : Hid (W = readF 30000 ts) := hPW
    have hNou : Nou (partF 30000 1 0 0) (.inr ts) := fun t0 h0 e => hn (by cases h0; rw [hPW]; unfold readF; rw [e]; rfl)
    have hwf : WFT ts := lex_wft _ _ _ _ _ _ hso.2.1
    have TI : ∀ x, x ∈ ts → TokI x := fun x hx s h1 h2 => (scan_w hR x hx).is h1 h2
    obtain ⟨g, cap0, rfl, hg, hc1, hc2, hcell⟩ := own_cells hown hso.2.2.2.2.1
    have hA := QS.new hg hcell (by omega) hc1 hc2 hwf
    have kA := (Keep.refl w1.heap.size w1).alloc (.cells #[.slice (some ⟨g, 0, none⟩) ts.length cap0, .int .i64 0, .int .i64 0, .int .i64 0, .int .i64 0, .int .i64 0] 43)
    have ZA := (Below.heap_alloc w1 (.cells #[.slice (some ⟨g, 0, none⟩) ts.length cap0, .int .i64 0, .int .i64 0, .int .i64 0, .int .i64 0, .int .i64 0] 43) _ hz1).trans Z1
    have BA := B1.alloc (by omega) (.cells #[.slice (some ⟨g, 0, none⟩) ts.length cap0, .int .i64 0, .int .i64 0, .int .i64 0, .int .i64 0, .int .i64 0] 43)
    have c2 := (rec_all 30000 (by omega)).1 _ _ ts 1 0 0 _ TI (by omega) (by omega) hA hNou
    have hsA : (w1.alloc (.cells #[.slice (some ⟨g, 0, none⟩) ts.length cap0, .int .i64 0, .int .i64 0, .int .i64 0, .int .i64 0, .int .i64 0] 43)).heap.size = w1.heap.size + 1 := by simp
    have hrb := hA.lt
    clear HW hR hso hown hPW hcell hA hwf TI hn hg hc1 hc2 kA
    go_wp2_with fail
    refine c2.mono ?_
    rintro e w2 ⟨X, ao, cap, st, rfl, S2, h2, k2, Q2⟩
    have b2 := k2.below (Nat.le_of_lt hz1) hrb
    have Z2 := k2.blk ZA (by omega)
    have B2 := BA.trans b2
    have hz2 : w.heap.size < w2.heap.size := lt_of_block Z2
    have h3 := h2.alloc (bxE X ao cap)
    have Z3 := (Below.heap_alloc w2 (bxE X ao cap) _ hz2).trans Z2
    have B3 := B2.alloc (by omega) (bxE X ao cap)
    have X3 : (w2.alloc (bxE X ao cap)).heap[w2.heap.size]? = some (bxE X ao cap) := heap_alloc_new w2 _
    have S3 := S2.allocN (bxE X ao cap)
    have hz3 : w1.heap.size < w2.heap.size := h2.lt
    rw [exV_out]
    go_upto_region 6 with fail
    generalize w2.alloc (bxE X ao cap) = w3 at *
    obtain ⟨xb, hxb⟩ : ∃ xb, xb = w2.heap.size := ⟨_, rfl⟩
    rw [← hxb] at X3 hz3 ⊢
    have hxw : w.heap.size < xb := by omega
    have hwr : w.heap.size < w1.heap.size := hz1
    have S3 := S3.low (show w.heap.size + 1 ≤ _ from (by omega))
    clear c2 S2 h2 k2 b2 Z2 B2 BA ZA B1 Z1 hz2 hxb hsA hrb
    generalize w1.heap.size = rb at *
    match st, h3, Q2 with
    | .inl (er, a), h3, Q2 =>
      have FIN : Hid (W = .bad er a) := by show W = _; rw [HW2.out]; exact read_bad hNou Q2
      clear HW2 Q2 hNou
      obtain ⟨hb, d4, d5⟩ := h3.bad5
      have hb2 : ((er : Int) != 0) = true := by simpa using hb
      go_quiet (fail)
      have b4 : Below w3.heap.size w3 (w3.drewN nq) := bdr (Below.refl _ _) nq
      have h4 := h3.below b4
      have Z4 := (b4.block _ (lt_of_block Z3)).trans Z3
      have B4 := B3.trans (b4.mono B3.size)
      generalize w3.drewN nq = w4 at *
      clear b4 h3 Z3 B3 X3 S3 hb d4 d5 hb2
      obtain ⟨hb, d4, d5⟩ := h4.bad5
      have hb2 : ((er : Int) != 0) = true := by simpa using hb
      have B9 := ((((B4.setCell (p := ⟨w.heap.size, 0, none⟩) (Nat.le_refl _) (.int .i64 0)).setCell (p := ⟨w.heap.size, 1, none⟩) (Nat.le_refl _) (.int .i64 0)).setCell (p := ⟨w.heap.size, 2, none⟩) (Nat.le_refl _) (.string ⟨#[]⟩)).setCell (p := ⟨w.heap.size, 3, none⟩) (Nat.le_refl _) (.slice none 0 0)).setCell (p := ⟨w.heap.size, 4, none⟩) (Nat.le_refl _) (.int .i64 0)
      have ZE := set5k (.int .i64 0) (.int .i64 0) (.string ⟨#[]⟩) (.slice none 0 0) (.int .i64 0) Z4
      have HU : Hid (∃ wz, wz = (World.setCell (World.setCell (World.setCell (World.setCell (World.setCell w4 ⟨w.heap.size, 0, none⟩ (.int .i64 0)) ⟨w.heap.size, 1, none⟩ (.int .i64 0)) ⟨w.heap.size, 2, none⟩ (.string ⟨#[]⟩)) ⟨w.heap.size, 3, none⟩ (.slice none 0 0)) ⟨w.heap.size, 4, none⟩ (.int .i64 0)) ∧ wz.cell? ⟨w.heap.size, 0, none⟩ = some (.int .i64 0) ∧ wz.cell? ⟨w.heap.size, 1, none⟩ = some (.int .i64 0) ∧ wz.cell? ⟨w.heap.size, 2, none⟩ = some (.string ⟨#[]⟩) ∧ wz.cell? ⟨w.heap.size, 3, none⟩ = some (.slice none 0 0) ∧ wz.cell? ⟨w.heap.size, 4, none⟩ = some (.int .i64 0) ∧ Below w.heap.size w wz) := by
        obtain ⟨u0, u1, u2, u3, u4, -⟩ := box5 ZE
        exact ⟨_, rfl, u0, u1, u2, u3, u4, B9⟩
      obtain ⟨z0, z1, z2, z3, z4, zf⟩ := box5 Z4
      clear ZE B9
      clear h4 B4 Z4
      go_upto_region 9 with fail
      go_region
      all_goals
        go_wp2
        obtain ⟨wz, hwz, u0, u1, u2, u3, u4, BZ⟩ := HU.out
        clear HU
        have BZd := BZ.drew
        rw [← hwz]
        clear hwz
        exact bodyPost_ret (v := .tuple #[exV noEx none 0, .int .i64 (er : Nat), .int .i64 (a : Nat)]) (by simp [results, Tryz.results6, go_sem, u0, u1, u2, u3, u4, exV, noEx, Fs.len]) rfl (by rw [FIN.out]; exact ⟨rfl, BZd⟩)
    | .inr [], h3, Q2 => exact absurd rfl (h3.nn [] rfl)
    | .inr (y :: r), h3, Q2 =>
      have FIN0 : Hid (W = if y.k = 0 then .ok X (y :: r) else .bad 120 y.a) := by show W = _; rw [HW2.out]; exact read_good hNou Q2
      clear HW2 Q2 hNou
      obtain ⟨i3, g3, cap3, L3, hg3, hi3, hcL3, hcap3, hL3, hm3, d0, d1, -, -, d4, ⟨t0, t1, t2, t3⟩, hf⟩ := h3.ok
      have hiI : (i3 : Int) < (L3 : Int) := by omega
      by_cases hk : y.k = 0
      · have FIN : Hid (W = .ok X (y :: r)) := by show W = _; rw [FIN0.out, if_pos hk]
        have bk : ((y.k : Int) == 0) = true := by simp [hk]
        have bk2 : ((y.k : Int) != 0) = false := by simp [hk]
        clear FIN0 hk
        go_quiet (fail)
        have b4 : Below w3.heap.size w3 (w3.drewN nq) := bdr (Below.refl _ _) nq
        have e4 := (b4.cell (p := ⟨rb, 4, none⟩) h3.lt).trans d4
        have Z4 := (b4.block _ (lt_of_block Z3)).trans Z3
        have X4 := (b4.block _ (lt_of_block X3)).trans X3
        have B4 := B3.trans (b4.mono B3.size)
        have S4 := S3.mono (fun i _ hl => b4.block i hl) b4.size (fun _ h _ => h)
        generalize w3.drewN nq = w4 at *
        clear b4 h3 Z3 B3 X3 S3 d0 d1 d4 t0 t1 t2 t3 hf hm3 bk bk2
        have B9 := ((((B4.setCell (p := ⟨w.heap.size, 0, none⟩) (Nat.le_refl _) (.int .i64 X.k)).setCell (p := ⟨w.heap.size, 1, none⟩) (Nat.le_refl _) (.int .i64 X.n)).setCell (p := ⟨w.heap.size, 2, none⟩) (Nat.le_refl _) (stv X.nm)).setCell (p := ⟨w.heap.size, 3, none⟩) (Nat.le_refl _) (.slice ao X.kids.len cap)).setCell (p := ⟨w.heap.size, 4, none⟩) (Nat.le_refl _) (.int .i64 X.a)
        have ZE := set5k (.int .i64 X.k) (.int .i64 X.n) (stv X.nm) (.slice ao X.kids.len cap) (.int .i64 X.a) Z4
        have SE : Sl _ (Nw w.heap.size) _ _ := (S4.set5 (b := w.heap.size) (by omega) (.int .i64 X.k) (.int .i64 X.n) (stv X.nm) (.slice ao X.kids.len cap) (.int .i64 X.a)).low (by omega)
        obtain ⟨z0, z1, z2, z3, z4, zf⟩ := box5 Z4
        obtain ⟨x0, x1, x2, x3, x4, xf⟩ := box5 X4
        obtain ⟨u0, u1, u2, u3, u4, -⟩ := box5 ZE
        clear ZE Z4 X4 B4 S4
        go_wp2
        exact bodyPost_ret (v := .tuple #[exV X ao cap, .int .i64 0, .int .i64 0]) (by simp [results, Tryz.results6, go_sem, u0, u1, u2, u3, u4, exV]) rfl (by rw [FIN.out]; exact ⟨ao, cap, rfl, SE, B9⟩)
      · have FIN : Hid (W = .bad 120 y.a) := by show W = _; rw [FIN0.out, if_neg hk]
        have bk : ((y.k : Int) == 0) = false := by simp; omega
        have bk2 : ((y.k : Int) != 0) = true := by simp; omega
        clear FIN0 hk
        go_quiet (fail)
        have b4 : Below w3.heap.size w3 (w3.drewN nq) := bdr (Below.refl _ _) nq
        have h4 := h3.below b4
        have Z4 := (b4.block _ (lt_of_block Z3)).trans Z3
        have B4 := B3.trans (b4.mono B3.size)
        generalize w3.drewN nq = w4 at *
        clear b4 h3 Z3 B3 X3 S3 d0 d1 d4 t0 t1 t2 t3 hf hm3 bk bk2
        have c5 : Calls Tryz.prog 17 #[.pointer (some ⟨rb, 0, none⟩), .int .i64 120] w4 fun r' w' => r' = .returned (.tuple #[]) ∧ QS w' rb ts 0 0 (.inl (120, y.a)) ∧ Keep rb w4 w' := fail_s 120 (by decide) h4
        have hr4 := h4.lt
        go_wp2_with fail
        refine c5.mono ?_
        rintro e w5 ⟨rfl, h5, k5⟩
        have Z5 := k5.blk Z4 (by omega)
        have B5 := B4.trans (k5.below (Nat.le_of_lt hwr) hr4)
        clear c5 k5 Z4 B4 h4 hr4
        obtain ⟨hb, d4, d5⟩ := h5.bad5
        have hb2 : ((120 : Int) != 0) = true := by decide
        have B9 := ((((B5.setCell (p := ⟨w.heap.size, 0, none⟩) (Nat.le_refl _) (.int .i64 0)).setCell (p := ⟨w.heap.size, 1, none⟩) (Nat.le_refl _) (.int .i64 0)).setCell (p := ⟨w.heap.size, 2, none⟩) (Nat.le_refl _) (.string ⟨#[]⟩)).setCell (p := ⟨w.heap.size, 3, none⟩) (Nat.le_refl _) (.slice none 0 0)).setCell (p := ⟨w.heap.size, 4, none⟩) (Nat.le_refl _) (.int .i64 0)
        have ZE := set5k (.int .i64 0) (.int .i64 0) (.string ⟨#[]⟩) (.slice none 0 0) (.int .i64 0) Z5
        have HU : Hid (∃ wz, wz = (World.setCell (World.setCell (World.setCell (World.setCell (World.setCell w5 ⟨w.heap.size, 0, none⟩ (.int .i64 0)) ⟨w.heap.size, 1, none⟩ (.int .i64 0)) ⟨w.heap.size, 2, none⟩ (.string ⟨#[]⟩)) ⟨w.heap.size, 3, none⟩ (.slice none 0 0)) ⟨w.heap.size, 4, none⟩ (.int .i64 0)) ∧ wz.cell? ⟨w.heap.size, 0, none⟩ = some (.int .i64 0) ∧ wz.cell? ⟨w.heap.size, 1, none⟩ = some (.int .i64 0) ∧ wz.cell? ⟨w.heap.size, 2, none⟩ = some (.string ⟨#[]⟩) ∧ wz.cell? ⟨w.heap.size, 3, none⟩ = some (.slice none 0 0) ∧ wz.cell? ⟨w.heap.size, 4, none⟩ = some (.int .i64 0) ∧ Below w.heap.size w wz) := by
          obtain ⟨u0, u1, u2, u3, u4, -⟩ := box5 ZE
          exact ⟨_, rfl, u0, u1, u2, u3, u4, B9⟩
        obtain ⟨z0, z1, z2, z3, z4, zf⟩ := box5 Z5
        clear ZE B9
        clear h5 B5 Z5
        go_upto_region 9 with fail
        go_region
        all_goals
          go_wp2
          obtain ⟨wz, hwz, u0, u1, u2, u3, u4, BZ⟩ := HU.out
          clear HU
          have BZd := BZ.drew
          rw [← hwz]
          clear hwz
          exact bodyPost_ret (v := .tuple #[exV noEx none 0, .int .i64 (120 : Nat), .int .i64 (y.a : Nat)]) (by simp [results, Tryz.results6, go_sem, u0, u1, u2, u3, u4, exV, noEx, Fs.len]) rfl (by rw [FIN.out]; exact ⟨rfl, BZd⟩)
end Go.Proofs.YtojleoionpnjpaaGreatDoor
