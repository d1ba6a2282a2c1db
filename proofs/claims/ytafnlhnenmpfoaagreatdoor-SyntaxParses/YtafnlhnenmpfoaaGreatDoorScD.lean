/- The program's reader, with room for each list (mkcap.py writes this text out of SynD). -/
import Derived.Test.YtafnlhnenmpfoaaGreatDoorLexF
namespace Go.Proofs.YtafnlhnenmpfoaaGreatDoor
open Go.ChangeShapes Go.WideShapes Go.ChangeAt Go.RowKit
set_option linter.unusedVariables false
set_option linter.unusedSimpArgs false

theorem QS.bad5 {w : World} {rb o q er a : Nat} {all : List Tk} (h : QS w rb all o q (.inl (er, a))) : ((er : Int) == 0) = false ∧ w.cell? ⟨rb, 4, none⟩ = some (.int .i64 (er : Nat)) ∧ w.cell? ⟨rb, 5, none⟩ = some (.int .i64 (a : Nat)) := by
  obtain ⟨i, o', q', h1, h2, h3⟩ := h
  obtain ⟨_, _, _, _, _, _, _, _, _, _, _, c4, c5, hf0⟩ := h1.next (List.getElem?_eq_getElem h2)
  exact ⟨by simp; omega, c4, c5⟩
/-- A reader that begins. -/
theorem QS.new {w : World} {g cap0 : Nat} {ts : List Tk} (hg : g < w.heap.size) (hc : ∀ j u, (tcells ts)[j]? = some u → w.cell? ⟨g, j, none⟩ = some u) (hl : ts.length ≤ 3000) (hc1 : ts.length ≤ cap0) (hc2 : cap0 ≤ maxLen) (hw : WFT ts) :
    QS (w.alloc (.cells #[.slice (some ⟨g, 0, none⟩) ts.length cap0, .int .i64 0, .int .i64 0, .int .i64 0, .int .i64 0, .int .i64 0] 44)) w.heap.size ts 0 0 (.inr ts) :=
  ⟨0, 0, ⟨g, cap0, heap_alloc_new w _, hg, fun j u hu => (((Below.refl _ w).alloc (Nat.le_refl _) _).cell (p := ⟨g, j, none⟩) hg).trans (hc j u hu), hl, hc1, hc2⟩, rfl, hw, by omega, by omega⟩
theorem own_cells {w : World} {b0 : Nat} {v : Value} {ts : List Tk} (hT : w.ownsRow b0 47 4 v ts.length (tcells ts)) (h0 : 0 < ts.length) : ∃ g cap, v = .slice (some ⟨g, 0, none⟩) ts.length cap ∧ g < w.heap.size ∧ ts.length ≤ cap ∧ cap ≤ maxLen ∧ ∀ j u, (tcells ts)[j]? = some u → w.cell? ⟨g, j, none⟩ = some u := by
  have r0 : Row w (fun _ => 0) 0 47 4 v ts.length (tcells ts) := ⟨ownsRow_base0 hT, fun _ _ => rfl⟩
  obtain ⟨g, cap, rfl, -, hc1, hc2, hg, hcell, -⟩ := r0.pos h0
  refine ⟨g, cap, rfl, hg, hc1, hc2, fun j u hu => ?_⟩
  rw [hcell j ?_]
  · exact hu
  · have hlen := r0.len
    rw [← hlen]
    by_cases hj : j < (tcells ts).length
    · exact hj
    · rw [List.getElem?_eq_none (by omega)] at hu
      cases hu
/-- What the whole reader makes of a state. -/
theorem read_bad {n : Nat} {ts : List Tk} {X : Ex} {er a : Nat} (hn : Nou (partF n 1 0 0) (.inr ts)) (Q : Qd (partF n 1 0 0) (.inr ts) X (.inl (er, a))) : readF n ts = .bad er a := by
  have h1 := Q.1
  simp only [onw] at h1
  unfold readF
  cases hp : partF n 1 0 0 ts using Rs.on with
  | out => exact absurd hp (hn ts rfl)
  | bad e2 a2 =>
    rw [hp] at h1
    simp only [stp] at h1
    injection h1 with h1
    injection h1 with h1 h2
    subst h1 h2
    rfl
  | ok y t => rw [hp] at h1; cases h1
theorem read_good {n : Nat} {ts : List Tk} {X : Ex} {y : Tk} {r : List Tk} (hn : Nou (partF n 1 0 0) (.inr ts)) (Q : Qd (partF n 1 0 0) (.inr ts) X (.inr (y :: r))) : readF n ts = if y.k = 0 then .ok X (y :: r) else .bad 120 y.a := by
  have h1 := Q.1
  simp only [onw] at h1
  unfold readF
  cases hp : partF n 1 0 0 ts using Rs.on with
  | out => exact absurd hp (hn ts rfl)
  | bad e2 a2 => rw [hp] at h1; cases h1
  | ok z t =>
    rw [hp] at h1
    simp only [stp] at h1
    injection h1 with h1
    subst h1
    rw [Q.2 ts z _ rfl hp]
    rfl
set_option maxRecDepth 100000 in
set_option maxHeartbeats 2000000 in
theorem parse_q (s : ByteArray) (w : World) (hs : s.size ≤ maxLen) :
    Calls Tryz.prog 8 #[.string s] w (PostR w (parseA s.data.toList)) := by
  obtain ⟨W, hPW⟩ : ∃ W, W = parseA s.data.toList := ⟨_, rfl⟩
  rw [← hPW]
  have HW : Hid (W = parseA s.data.toList) := hPW
  have hn : W ≠ .out := by rw [hPW]; exact parse_fine _
  have B0 : Below w.heap.size w (w.alloc exZ) := (Below.refl _ w).alloc (Nat.le_refl _) _
  have Z0 : (w.alloc exZ).heap[w.heap.size]? = some exZ := heap_alloc_new w _
  have hs0 : w.heap.size < (w.alloc exZ).heap.size := by simp
  have c1 := rscan_c s (w.alloc exZ) hs
  clear hPW
  go_enter Tryz.func8, Tryz.ntmps8
  go_wp2_with fail
  refine c1.mono ?_
  rintro e w1 ⟨v, er, at0, rfl, hO, b1⟩
  have B1 : Below w.heap.size w w1 := B0.trans (b1.mono (by omega))
  have Z1 := (b1.block _ hs0).trans Z0
  have hz1 : w.heap.size < w1.heap.size := lt_of_block Z1
  clear c1 b1 Z0 B0
  rcases hO with ⟨e, p, hR, rfl, rfl, rfl⟩ | ⟨ts, hR, rfl, rfl, hown⟩
  · have he := scan_err_pos hR
    have heI : ((e : Int) == 0) = false := by rw [beq_eq_false_iff_ne]; omega
    have heI2 : ((e : Int) != 0) = true := by simpa using heI
    have FIN : Hid (W = .bad e p) := by show W = _; rw [HW.out]; unfold parseA; rw [hR]
    have B9 := ((((B1.setCell (p := ⟨w.heap.size, 0, none⟩) (Nat.le_refl _) (.int .i64 0)).setCell (p := ⟨w.heap.size, 1, none⟩) (Nat.le_refl _) (.int .i64 0)).setCell (p := ⟨w.heap.size, 2, none⟩) (Nat.le_refl _) (.string ⟨#[]⟩)).setCell (p := ⟨w.heap.size, 3, none⟩) (Nat.le_refl _) (.slice none 0 0)).setCell (p := ⟨w.heap.size, 4, none⟩) (Nat.le_refl _) (.int .i64 0)
    have ZE := set5k (.int .i64 0) (.int .i64 0) (.string ⟨#[]⟩) (.slice none 0 0) (.int .i64 0) Z1
    have HU : Hid (∃ wz, wz = (World.setCell (World.setCell (World.setCell (World.setCell (World.setCell w1 ⟨w.heap.size, 0, none⟩ (.int .i64 0)) ⟨w.heap.size, 1, none⟩ (.int .i64 0)) ⟨w.heap.size, 2, none⟩ (.string ⟨#[]⟩)) ⟨w.heap.size, 3, none⟩ (.slice none 0 0)) ⟨w.heap.size, 4, none⟩ (.int .i64 0)) ∧ wz.cell? ⟨w.heap.size, 0, none⟩ = some (.int .i64 0) ∧ wz.cell? ⟨w.heap.size, 1, none⟩ = some (.int .i64 0) ∧ wz.cell? ⟨w.heap.size, 2, none⟩ = some (.string ⟨#[]⟩) ∧ wz.cell? ⟨w.heap.size, 3, none⟩ = some (.slice none 0 0) ∧ wz.cell? ⟨w.heap.size, 4, none⟩ = some (.int .i64 0) ∧ Below w.heap.size w wz) := by
      obtain ⟨u0, u1, u2, u3, u4, -⟩ := box5 ZE
      exact ⟨_, rfl, u0, u1, u2, u3, u4, B9⟩
    obtain ⟨z0, z1, z2, z3, z4, zf⟩ := box5 Z1
    clear ZE B9
    clear HW hR B1 Z1 he
    go_wp2
    obtain ⟨wz, hwz, u0, u1, u2, u3, u4, BZ⟩ := HU.out
    clear HU
    rw [← hwz]
    clear hwz
    exact bodyPost_ret (v := .tuple #[exV noEx none 0, .int .i64 (e : Nat), .int .i64 (p : Nat)]) (by simp [results, Tryz.results8, go_sem, u0, u1, u2, u3, u4, exV, noEx, Fs.len]) rfl (by rw [FIN.out]; exact ⟨rfl, BZ⟩)
  · have hso := scan_ok hR
    have hPW : W = readF 30000 ts := by rw [HW.out]; unfold parseA; rw [hR]
    have HW2 : Hid (W = readF 30000 ts) := hPW
    have hNou : Nou (partF 30000 1 0 0) (.inr ts) := fun t0 h0 e => hn (by cases h0; rw [hPW]; unfold readF; rw [e]; rfl)
    have hwf : WFT ts := lex_wft _ _ _ _ _ _ hso.2.1
    have TI : ∀ x, x ∈ ts → TokI x := fun x hx s h1 h2 => (scan_w hR x hx).is h1 h2
    obtain ⟨g, cap0, rfl, hg, hc1, hc2, hcell⟩ := own_cells hown hso.2.2.2.2.1
    have hA := QS.new hg hcell (by omega) hc1 hc2 hwf
    have kA := (Keep.refl w1.heap.size w1).alloc (.cells #[.slice (some ⟨g, 0, none⟩) ts.length cap0, .int .i64 0, .int .i64 0, .int .i64 0, .int .i64 0, .int .i64 0] 44)
    have ZA := (Below.heap_alloc w1 (.cells #[.slice (some ⟨g, 0, none⟩) ts.length cap0, .int .i64 0, .int .i64 0, .int .i64 0, .int .i64 0, .int .i64 0] 44) _ hz1).trans Z1
    have BA := B1.alloc (by omega) (.cells #[.slice (some ⟨g, 0, none⟩) ts.length cap0, .int .i64 0, .int .i64 0, .int .i64 0, .int .i64 0, .int .i64 0] 44)
    have c2 := (rec_all 30000 (by omega)).1 _ _ ts 1 0 0 _ TI (by omega) (by omega) hA hNou
    have hsA : (w1.alloc (.cells #[.slice (some ⟨g, 0, none⟩) ts.length cap0, .int .i64 0, .int .i64 0, .int .i64 0, .int .i64 0, .int .i64 0] 44)).heap.size = w1.heap.size + 1 := by simp
    have hrb := hA.lt
    clear HW hR hso hown hPW hcell hA hwf TI hn hg hc1 hc2 kA
    go_wp2_with fail
    refine c2.mono ?_
    rintro e w2 ⟨X, ao, cap, st, rfl, S2, h2, k2, Q2⟩
    have b2 := k2.below (Nat.le_of_lt hz1) hrb
    have Z2 := k2.blk ZA (by omega)
    have B2 := BA.trans b2
    have hz2 : w.heap.size < w2.heap.size := lt_of_block Z2
    have h3 := h2.alloc (bxE X ao cap)
    have Z3 := (Below.heap_alloc w2 (bxE X ao cap) _ hz2).trans Z2
    have B3 := B2.alloc (by omega) (bxE X ao cap)
    have X3 : (w2.alloc (bxE X ao cap)).heap[w2.heap.size]? = some (bxE X ao cap) := heap_alloc_new w2 _
    have S3 := S2.allocN (bxE X ao cap)
    have hz3 : w1.heap.size < w2.heap.size := h2.lt
    rw [exV_out]
    go_upto_region 6 with fail
    generalize w2.alloc (bxE X ao cap) = w3 at *
    obtain ⟨xb, hxb⟩ : ∃ xb, xb = w2.heap.size := ⟨_, rfl⟩
    rw [← hxb] at X3 hz3 ⊢
    have hxw : w.heap.size < xb := by omega
    have hwr : w.heap.size < w1.heap.size := hz1
    have S3 := S3.low (show w.heap.size + 1 ≤ _ from (by omega))
    clear c2 S2 h2 k2 b2 Z2 B2 BA ZA B1 Z1 hz2 hxb hsA hrb
    generalize w1.heap.size = rb at *
    match st, h3, Q2 with
    | .inl (er, a), h3, Q2 =>
      have FIN : Hid (W = .bad er a) := by show W = _; rw [HW2.out]; exact read_bad hNou Q2
      clear HW2 Q2 hNou
      obtain ⟨hb, d4, d5⟩ := h3.bad5
      have hb2 : ((er : Int) != 0) = true := by simpa using hb
      go_quiet (fail)
      have b4 : Below w3.heap.size w3 (w3.drewN nq) := bdr (Below.refl _ _) nq
      have h4 := h3.below b4
      have Z4 := (b4.block _ (lt_of_block Z3)).trans Z3
      have B4 := B3.trans (b4.mono B3.size)
      generalize w3.drewN nq = w4 at *
      clear b4 h3 Z3 B3 X3 S3 hb d4 d5 hb2
      obtain ⟨hb, d4, d5⟩ := h4.bad5
      have hb2 : ((er : Int) != 0) = true := by simpa using hb
      have B9 := ((((B4.setCell (p := ⟨w.heap.size, 0, none⟩) (Nat.le_refl _) (.int .i64 0)).setCell (p := ⟨w.heap.size, 1, none⟩) (Nat.le_refl _) (.int .i64 0)).setCell (p := ⟨w.heap.size, 2, none⟩) (Nat.le_refl _) (.string ⟨#[]⟩)).setCell (p := ⟨w.heap.size, 3, none⟩) (Nat.le_refl _) (.slice none 0 0)).setCell (p := ⟨w.heap.size, 4, none⟩) (Nat.le_refl _) (.int .i64 0)
      have ZE := set5k (.int .i64 0) (.int .i64 0) (.string ⟨#[]⟩) (.slice none 0 0) (.int .i64 0) Z4
      have HU : Hid (∃ wz, wz = (World.setCell (World.setCell (World.setCell (World.setCell (World.setCell w4 ⟨w.heap.size, 0, none⟩ (.int .i64 0)) ⟨w.heap.size, 1, none⟩ (.int .i64 0)) ⟨w.heap.size, 2, none⟩ (.string ⟨#[]⟩)) ⟨w.heap.size, 3, none⟩ (.slice none 0 0)) ⟨w.heap.size, 4, none⟩ (.int .i64 0)) ∧ wz.cell? ⟨w.heap.size, 0, none⟩ = some (.int .i64 0) ∧ wz.cell? ⟨w.heap.size, 1, none⟩ = some (.int .i64 0) ∧ wz.cell? ⟨w.heap.size, 2, none⟩ = some (.string ⟨#[]⟩) ∧ wz.cell? ⟨w.heap.size, 3, none⟩ = some (.slice none 0 0) ∧ wz.cell? ⟨w.heap.size, 4, none⟩ = some (.int .i64 0) ∧ Below w.heap.size w wz) := by
        obtain ⟨u0, u1, u2, u3, u4, -⟩ := box5 ZE
        exact ⟨_, rfl, u0, u1, u2, u3, u4, B9⟩
      obtain ⟨z0, z1, z2, z3, z4, zf⟩ := box5 Z4
      clear ZE B9
      clear h4 B4 Z4
      go_upto_region 9 with fail
      go_region
      all_goals
        go_wp2
        obtain ⟨wz, hwz, u0, u1, u2, u3, u4, BZ⟩ := HU.out
        clear HU
        have BZd := BZ.drew
        rw [← hwz]
        clear hwz
        exact bodyPost_ret (v := .tuple #[exV noEx none 0, .int .i64 (er : Nat), .int .i64 (a : Nat)]) (by simp [results, Tryz.results8, go_sem, u0, u1, u2, u3, u4, exV, noEx, Fs.len]) rfl (by rw [FIN.out]; exact ⟨rfl, BZd⟩)
    | .inr [], h3, Q2 => exact absurd rfl (h3.nn [] rfl)
    | .inr (y :: r), h3, Q2 =>
      have FIN0 : Hid (W = if y.k = 0 then .ok X (y :: r) else .bad 120 y.a) := by show W = _; rw [HW2.out]; exact read_good hNou Q2
      clear HW2 Q2 hNou
      obtain ⟨i3, g3, cap3, L3, hg3, hi3, hcL3, hcap3, hL3, hm3, d0, d1, -, -, d4, ⟨t0, t1, t2, t3⟩, hf⟩ := h3.ok
      have hiI : (i3 : Int) < (L3 : Int) := by omega
      by_cases hk : y.k = 0
      · have FIN : Hid (W = .ok X (y :: r)) := by show W = _; rw [FIN0.out, if_pos hk]
        have bk : ((y.k : Int) == 0) = true := by simp [hk]
        have bk2 : ((y.k : Int) != 0) = false := by simp [hk]
        clear FIN0 hk
        go_quiet (fail)
        have b4 : Below w3.heap.size w3 (w3.drewN nq) := bdr (Below.refl _ _) nq
        have e4 := (b4.cell (p := ⟨rb, 4, none⟩) h3.lt).trans d4
        have Z4 := (b4.block _ (lt_of_block Z3)).trans Z3
        have X4 := (b4.block _ (lt_of_block X3)).trans X3
        have B4 := B3.trans (b4.mono B3.size)
        have S4 := S3.mono (fun i _ hl => b4.block i hl) b4.size (fun _ h _ => h)
        generalize w3.drewN nq = w4 at *
        clear b4 h3 Z3 B3 X3 S3 d0 d1 d4 t0 t1 t2 t3 hf hm3 bk bk2
        have B9 := ((((B4.setCell (p := ⟨w.heap.size, 0, none⟩) (Nat.le_refl _) (.int .i64 X.k)).setCell (p := ⟨w.heap.size, 1, none⟩) (Nat.le_refl _) (.int .i64 X.n)).setCell (p := ⟨w.heap.size, 2, none⟩) (Nat.le_refl _) (stv X.nm)).setCell (p := ⟨w.heap.size, 3, none⟩) (Nat.le_refl _) (.slice ao X.kids.len cap)).setCell (p := ⟨w.heap.size, 4, none⟩) (Nat.le_refl _) (.int .i64 X.a)
        have ZE := set5k (.int .i64 X.k) (.int .i64 X.n) (stv X.nm) (.slice ao X.kids.len cap) (.int .i64 X.a) Z4
        have SE : Sl _ (Nw w.heap.size) _ _ := (S4.set5 (b := w.heap.size) (by omega) (.int .i64 X.k) (.int .i64 X.n) (stv X.nm) (.slice ao X.kids.len cap) (.int .i64 X.a)).low (by omega)
        obtain ⟨z0, z1, z2, z3, z4, zf⟩ := box5 Z4
        obtain ⟨x0, x1, x2, x3, x4, xf⟩ := box5 X4
        obtain ⟨u0, u1, u2, u3, u4, -⟩ := box5 ZE
        clear ZE Z4 X4 B4 S4
        go_wp2
        exact bodyPost_ret (v := .tuple #[exV X ao cap, .int .i64 0, .int .i64 0]) (by simp [results, Tryz.results8, go_sem, u0, u1, u2, u3, u4, exV]) rfl (by rw [FIN.out]; exact ⟨ao, cap, rfl, SE, B9⟩)
      · have FIN : Hid (W = .bad 120 y.a) := by show W = _; rw [FIN0.out, if_neg hk]
        have bk : ((y.k : Int) == 0) = false := by simp; omega
        have bk2 : ((y.k : Int) != 0) = true := by simp; omega
        clear FIN0 hk
        go_quiet (fail)
        have b4 : Below w3.heap.size w3 (w3.drewN nq) := bdr (Below.refl _ _) nq
        have h4 := h3.below b4
        have Z4 := (b4.block _ (lt_of_block Z3)).trans Z3
        have B4 := B3.trans (b4.mono B3.size)
        generalize w3.drewN nq = w4 at *
        clear b4 h3 Z3 B3 X3 S3 d0 d1 d4 t0 t1 t2 t3 hf hm3 bk bk2
        have c5 : Calls Tryz.prog 22 #[.pointer (some ⟨rb, 0, none⟩), .int .i64 120] w4 fun r' w' => r' = .returned (.tuple #[]) ∧ QS w' rb ts 0 0 (.inl (120, y.a)) ∧ Keep rb w4 w' := fail_s 120 (by decide) h4
        have hr4 := h4.lt
        go_wp2_with fail
        refine c5.mono ?_
        rintro e w5 ⟨rfl, h5, k5⟩
        have Z5 := k5.blk Z4 (by omega)
        have B5 := B4.trans (k5.below (Nat.le_of_lt hwr) hr4)
        clear c5 k5 Z4 B4 h4 hr4
        obtain ⟨hb, d4, d5⟩ := h5.bad5
        have hb2 : ((120 : Int) != 0) = true := by decide
        have B9 := ((((B5.setCell (p := ⟨w.heap.size, 0, none⟩) (Nat.le_refl _) (.int .i64 0)).setCell (p := ⟨w.heap.size, 1, none⟩) (Nat.le_refl _) (.int .i64 0)).setCell (p := ⟨w.heap.size, 2, none⟩) (Nat.le_refl _) (.string ⟨#[]⟩)).setCell (p := ⟨w.heap.size, 3, none⟩) (Nat.le_refl _) (.slice none 0 0)).setCell (p := ⟨w.heap.size, 4, none⟩) (Nat.le_refl _) (.int .i64 0)
        have ZE := set5k (.int .i64 0) (.int .i64 0) (.string ⟨#[]⟩) (.slice none 0 0) (.int .i64 0) Z5
        have HU : Hid (∃ wz, wz = (World.setCell (World.setCell (World.setCell (World.setCell (World.setCell w5 ⟨w.heap.size, 0, none⟩ (.int .i64 0)) ⟨w.heap.size, 1, none⟩ (.int .i64 0)) ⟨w.heap.size, 2, none⟩ (.string ⟨#[]⟩)) ⟨w.heap.size, 3, none⟩ (.slice none 0 0)) ⟨w.heap.size, 4, none⟩ (.int .i64 0)) ∧ wz.cell? ⟨w.heap.size, 0, none⟩ = some (.int .i64 0) ∧ wz.cell? ⟨w.heap.size, 1, none⟩ = some (.int .i64 0) ∧ wz.cell? ⟨w.heap.size, 2, none⟩ = some (.string ⟨#[]⟩) ∧ wz.cell? ⟨w.heap.size, 3, none⟩ = some (.slice none 0 0) ∧ wz.cell? ⟨w.heap.size, 4, none⟩ = some (.int .i64 0) ∧ Below w.heap.size w wz) := by
          obtain ⟨u0, u1, u2, u3, u4, -⟩ := box5 ZE
          exact ⟨_, rfl, u0, u1, u2, u3, u4, B9⟩
        obtain ⟨z0, z1, z2, z3, z4, zf⟩ := box5 Z5
        clear ZE B9
        clear h5 B5 Z5
        go_upto_region 9 with fail
        go_region
        all_goals
          go_wp2
          obtain ⟨wz, hwz, u0, u1, u2, u3, u4, BZ⟩ := HU.out
          clear HU
          have BZd := BZ.drew
          rw [← hwz]
          clear hwz
          exact bodyPost_ret (v := .tuple #[exV noEx none 0, .int .i64 (120 : Nat), .int .i64 (y.a : Nat)]) (by simp [results, Tryz.results8, go_sem, u0, u1, u2, u3, u4, exV, noEx, Fs.len]) rfl (by rw [FIN.out]; exact ⟨rfl, BZd⟩)
end Go.Proofs.YtafnlhnenmpfoaaGreatDoor
namespace Go.Proofs.YtafnlhnenmpfoaaGreatDoor
open Go.ChangeShapes Go.WideShapes Go.ChangeAt Go.RowKit
set_option linter.unusedVariables false
set_option linter.unusedSimpArgs false

/-- The cells of trees in a row; each list below them has its room. -/
def FcC (w : World) (P : Nat → Prop) : Fs → List Value → Prop
  | ⟨none⟩, xs => xs = []
  | ⟨some ⟨k, n, nm, a, ks, r⟩⟩, xs => ∃ ao cap ys, xs = .int .i64 k :: .int .i64 n :: stv nm :: .slice ao ks.len cap :: .int .i64 a :: ys ∧
      ((ks = .nil ∧ ao = none ∧ cap = 0) ∨ ∃ b zs cur, ao = some ⟨b, 0, none⟩ ∧ P b ∧ b < w.heap.size ∧ ks.len ≤ cap ∧ w.heap[b]? = some (.cells cur 25 (0, 0)) ∧ cur.size = cap * 5 ∧ (∀ (j : Nat) (u : Value), zs[j]? = some u → cur[j]? = some u) ∧ FcC w P ks zs) ∧ FcC w P r ys
/-- A slice of trees with its room. -/
def Slc (w : World) (P : Nat → Prop) (ks : Fs) (ao : Option Addr) (cap : Nat) : Prop :=
  (ks = .nil ∧ ao = none ∧ cap = 0) ∨ ∃ b zs cur, ao = some ⟨b, 0, none⟩ ∧ P b ∧ b < w.heap.size ∧ ks.len ≤ cap ∧ w.heap[b]? = some (.cells cur 25 (0, 0)) ∧ cur.size = cap * 5 ∧ (∀ (j : Nat) (u : Value), zs[j]? = some u → cur[j]? = some u) ∧ FcC w P ks zs
theorem FcC.len {w : World} {P : Nat → Prop} : ∀ {f : Fs} {xs : List Value}, FcC w P f xs → xs.length = f.len * 5
  | ⟨none⟩, xs, h => by
    have h : xs = [] := h
    subst h
    rfl
  | ⟨some ⟨k, n, nm, a, ks, r⟩⟩, xs, h => by
    obtain ⟨ao, cap, ys, rfl, _, h2⟩ := h
    have := FcC.len h2
    simp only [List.length_cons, Fs.len]
    omega
theorem FcC.mono {w w' : World} {P Q : Nat → Prop} (hb : ∀ k, P k → k < w.heap.size → w'.heap[k]? = w.heap[k]?) (hs : w.heap.size ≤ w'.heap.size) (hq : ∀ k, P k → k < w.heap.size → Q k) : ∀ {f : Fs} {xs : List Value}, FcC w P f xs → FcC w' Q f xs
  | ⟨none⟩, xs, h => h
  | ⟨some ⟨k, n, nm, a, ks, r⟩⟩, xs, h => by
    obtain ⟨ao, cap, ys, rfl, h1, h2⟩ := h
    refine ⟨ao, cap, ys, rfl, ?_, FcC.mono hb hs hq h2⟩
    rcases h1 with h1 | ⟨b, zs, cur, rfl, hp, hlt, h4, h5, h6, h7, h3⟩
    · exact .inl h1
    · exact .inr ⟨b, zs, cur, rfl, hq b hp hlt, Nat.lt_of_lt_of_le hlt hs, h4, (hb b hp hlt).trans h5, h6, h7, FcC.mono hb hs hq h3⟩
theorem Slc.mono {w w' : World} {P Q : Nat → Prop} {f : Fs} {ao : Option Addr} {cap : Nat} (hb : ∀ k, P k → k < w.heap.size → w'.heap[k]? = w.heap[k]?) (hs : w.heap.size ≤ w'.heap.size) (hq : ∀ k, P k → k < w.heap.size → Q k) (h : Slc w P f ao cap) : Slc w' Q f ao cap := by
  rcases h with h | ⟨b, zs, cur, rfl, hp, hlt, h4, h5, h6, h7, h3⟩
  · exact .inl h
  · exact .inr ⟨b, zs, cur, rfl, hq b hp hlt, Nat.lt_of_lt_of_le hlt hs, h4, (hb b hp hlt).trans h5, h6, h7, h3.mono hb hs hq⟩
theorem FcC.fc {w : World} {P : Nat → Prop} : ∀ {f : Fs} {xs : List Value}, FcC w P f xs → Fc w P f xs
  | ⟨none⟩, xs, h => h
  | ⟨some ⟨k, n, nm, a, ks, r⟩⟩, xs, h => by
    obtain ⟨ao, cap, ys, rfl, h1, h2⟩ := h
    refine ⟨ao, cap, ys, rfl, ?_, FcC.fc h2⟩
    rcases h1 with h1 | ⟨b, zs, cur, rfl, hp, hlt, h4, h5, h6, h7, h3⟩
    · exact .inl h1.1
    · exact .inr ⟨b, 0, zs, rfl, hp, hlt, fun j u hu => by rw [Nat.zero_add, cell_of_row _ b j _ _ (0, 0) h5]; exact h7 j u hu, FcC.fc h3⟩
theorem Slc.sl {w : World} {P : Nat → Prop} {f : Fs} {ao : Option Addr} {cap : Nat} (h : Slc w P f ao cap) : Sl w P f ao := by
  rcases h with h1 | ⟨b, zs, cur, rfl, hp, hlt, h4, h5, h6, h7, h3⟩
  · exact .inl h1.1
  · exact .inr ⟨b, 0, zs, rfl, hp, hlt, fun j u hu => by rw [Nat.zero_add, cell_of_row _ b j _ _ (0, 0) h5]; exact h7 j u hu, h3.fc⟩
theorem FcC.app {w : World} {P : Nat → Prop} : ∀ {f g : Fs} {xs ys : List Value}, FcC w P f xs → FcC w P g ys → FcC w P (f.app g) (xs ++ ys)
  | ⟨none⟩, g, xs, ys, h, k => by
    have h : xs = [] := h
    subst h
    exact k
  | ⟨some ⟨i, n, nm, a, ks, r⟩⟩, g, xs, ys, h, k => by
    obtain ⟨ao, cap, zs, rfl, h1, h2⟩ := h
    exact ⟨ao, cap, zs ++ ys, rfl, h1, FcC.app h2 k⟩
theorem FcC.one {w : World} {P : Nat → Prop} {e : Ex} {ao : Option Addr} (cap : Nat) (h : Slc w P e.kids ao cap) : FcC w P (one e) [.int .i64 e.k, .int .i64 e.n, stv e.nm, .slice ao e.kids.len cap, .int .i64 e.a] := ⟨ao, cap, [], rfl, h, rfl⟩
theorem Slc.nil (w : World) (P : Nat → Prop) : Slc w P .nil none 0 := .inl ⟨rfl, rfl, rfl⟩
theorem Slc.keepN {rb n : Nat} {w w' : World} {f : Fs} {ao : Option Addr} {cap : Nat} (h : Slc w (Nw n) f ao cap) (k : Keep rb w w') (hn : rb < n) : Slc w' (Nw n) f ao cap := h.mono (fun i hp hl => k.block i hl (by have hp : n ≤ i := hp; omega)) k.size (fun _ h _ => h)
theorem Slc.setN {n : Nat} {w : World} {f : Fs} {ao : Option Addr} {cap : Nat} (h : Slc w (Nw n) f ao cap) (p : Addr) (v : Value) (hp : p.block < n) : Slc (w.setCell p v) (Nw n) f ao cap := h.mono (fun i hp hl => heap_setCell_other w p i v (by have hp : n ≤ i := hp; omega)) (by simp) (fun _ h _ => h)
theorem Slc.allocN {n : Nat} {w : World} {f : Fs} {ao : Option Addr} {cap : Nat} (h : Slc w (Nw n) f ao cap) (ob : Obj) : Slc (w.alloc ob) (Nw n) f ao cap := h.mono (fun i hp hl => Below.heap_alloc w ob i hl) (by simp) (fun _ h _ => h)
theorem Slc.low {n m : Nat} {w : World} {f : Fs} {ao : Option Addr} {cap : Nat} (h : Slc w (Nw n) f ao cap) (hm : m ≤ n) : Slc w (Nw m) f ao cap := h.mono (fun i hp hl => rfl) (Nat.le_refl _) (fun i h _ => Nat.le_trans hm h)
theorem Slc.set5 {n : Nat} {w : World} {f : Fs} {ao : Option Addr} {cap : Nat} (h : Slc w (Nw n) f ao cap) {b : Nat} (hb : b < n) (b0 b1 b2 b3 b4 : Value) : Slc (((((w.setCell ⟨b, 0, none⟩ b0).setCell ⟨b, 1, none⟩ b1).setCell ⟨b, 2, none⟩ b2).setCell ⟨b, 3, none⟩ b3).setCell ⟨b, 4, none⟩ b4) (Nw n) f ao cap := ((((h.setN ⟨b, 0, none⟩ b0 hb).setN ⟨b, 1, none⟩ b1 hb).setN ⟨b, 2, none⟩ b2 hb).setN ⟨b, 3, none⟩ b3 hb).setN ⟨b, 4, none⟩ b4 hb
theorem FcC.low {n m : Nat} {w : World} {f : Fs} {xs : List Value} (h : FcC w (Nw n) f xs) (hm : m ≤ n) : FcC w (Nw m) f xs := h.mono (fun i hp hl => rfl) (Nat.le_refl _) (fun i h _ => Nat.le_trans hm h)
theorem FcC.allocN {n : Nat} {w : World} {f : Fs} {xs : List Value} (h : FcC w (Nw n) f xs) (ob : Obj) : FcC (w.alloc ob) (Nw n) f xs := h.mono (fun i hp hl => Below.heap_alloc w ob i hl) (by simp) (fun _ h _ => h)
theorem Slc.freshP {w : World} {P : Nat → Prop} {f : Fs} (xs : List Value) (h : FcC w P f xs) (hp : P w.heap.size) (c : Nat) (hc : f.len = c) : Slc (w.alloc (.cells xs.toArray 25)) P f (some ⟨w.heap.size, 0, none⟩) c := by
  subst hc
  exact .inr ⟨w.heap.size, xs, xs.toArray, rfl, hp, by simp, Nat.le_refl _, heap_alloc_new w _, by simp [h.len], fun j u hu => by simpa using hu, h.mono (fun i _ hl => Below.heap_alloc w _ i hl) (by simp) (fun _ h _ => h)⟩
theorem Slc.fresh {w : World} {n : Nat} {f : Fs} (xs : List Value) (h : FcC w (Nw n) f xs) (hn : n ≤ w.heap.size) (c : Nat) (hc : f.len = c) : Slc (w.alloc (.cells xs.toArray 25)) (Nw n) f (some ⟨w.heap.size, 0, none⟩) c := Slc.freshP xs h hn c hc
theorem Slc.first {w : World} {n : Nat} {e : Ex} {ao : Option Addr} {cap : Nat} (h : Slc w (Nw n) (one e) ao cap) : ∃ b off ae ce, ao = some ⟨b, off, none⟩ ∧ w.cell? ⟨b, off, none⟩ = some (.int .i64 e.k) ∧ w.cell? ⟨b, off + 1, none⟩ = some (.int .i64 e.n) ∧ w.cell? ⟨b, off + 2, none⟩ = some (stv e.nm) ∧ w.cell? ⟨b, off + 3, none⟩ = some (.slice ae e.kids.len ce) ∧ w.cell? ⟨b, off + 4, none⟩ = some (.int .i64 e.a) ∧ Slc w (Nw n) e.kids ae ce := by
  rcases h with h | ⟨b, zs, cur, rfl, hp, hlt, h4, h5, h6, hc, hf⟩
  · cases h.1
  · obtain ⟨ae, ce, ys, rfl, h1, h2⟩ := hf
    have hcc : ∀ (j : Nat) (u : Value), (.int .i64 e.k :: .int .i64 e.n :: stv e.nm :: .slice ae e.kids.len ce :: .int .i64 e.a :: ys : List Value)[j]? = some u → w.cell? ⟨b, j, none⟩ = some u := fun j u hu => by rw [cell_of_row _ b j _ _ (0, 0) h5]; exact hc j u hu
    exact ⟨b, 0, ae, ce, rfl, hcc 0 _ rfl, hcc 1 _ rfl, hcc 2 _ rfl, hcc 3 _ rfl, hcc 4 _ rfl, h1⟩
theorem Slc.toB {n n1 bl : Nat} {w : World} {f : Fs} {ao : Option Addr} {cap : Nat} (h : Slc w (Nw n1) f ao cap) (hn : n ≤ n1) (hb : bl < n1) : Slc w (Nb n bl) f ao cap := h.mono (fun _ _ _ => rfl) (Nat.le_refl _) (fun k hk _ => ⟨Nat.le_trans hn hk, by have hk : n1 ≤ k := hk; omega⟩)
theorem Slc.toB' {n bl : Nat} {w : World} {f : Fs} {ao : Option Addr} {cap : Nat} (h : Slc w (Nw n) f ao cap) (hb : w.heap.size ≤ bl) : Slc w (Nb n bl) f ao cap := h.mono (fun _ _ _ => rfl) (Nat.le_refl _) (fun k hk hl => ⟨hk, by omega⟩)
theorem Slc.keepB {rb n bl : Nat} {w w' : World} {f : Fs} {ao : Option Addr} {cap : Nat} (h : Slc w (Nb n bl) f ao cap) (k : Keep rb w w') (hn : rb < n) : Slc w' (Nb n bl) f ao cap := h.mono (fun i hp hl => k.block i hl (by have := hp.1; omega)) k.size (fun _ h _ => h)
theorem Slc.allocB {P : Nat → Prop} {w : World} {f : Fs} {ao : Option Addr} {cap : Nat} (h : Slc w P f ao cap) (ob : Obj) : Slc (w.alloc ob) P f ao cap := h.mono (fun i hp hl => Below.heap_alloc w ob i hl) (by simp) (fun _ h _ => h)
theorem Slc.setB {n bl : Nat} {w : World} {f : Fs} {ao : Option Addr} {cap : Nat} (h : Slc w (Nb n bl) f ao cap) (p : Addr) (v : Value) (hp : p.block = bl ∨ p.block < n) : Slc (w.setCell p v) (Nb n bl) f ao cap := h.mono (fun i hi hl => heap_setCell_other w p i v (by have h1 := hi.1; have h2 := hi.2; rcases hp with hp | hp <;> omega)) (by simp) (fun _ h _ => h)
theorem Slc.set5B {n bl : Nat} {w : World} {f : Fs} {ao : Option Addr} {cap : Nat} (h : Slc w (Nb n bl) f ao cap) {b : Nat} (hb : b = bl ∨ b < n) (b0 b1 b2 b3 b4 : Value) : Slc (((((w.setCell ⟨b, 0, none⟩ b0).setCell ⟨b, 1, none⟩ b1).setCell ⟨b, 2, none⟩ b2).setCell ⟨b, 3, none⟩ b3).setCell ⟨b, 4, none⟩ b4) (Nb n bl) f ao cap := ((((h.setB ⟨b, 0, none⟩ b0 hb).setB ⟨b, 1, none⟩ b1 hb).setB ⟨b, 2, none⟩ b2 hb).setB ⟨b, 3, none⟩ b3 hb).setB ⟨b, 4, none⟩ b4 hb
theorem Slc.lowB {n bl m : Nat} {w : World} {f : Fs} {ao : Option Addr} {cap : Nat} (h : Slc w (Nb n bl) f ao cap) (hm : m ≤ n) : Slc w (Nw m) f ao cap := h.mono (fun _ _ _ => rfl) (Nat.le_refl _) (fun k hk _ => Nat.le_trans hm hk.1)
theorem Slc.freshB {w : World} {n bl : Nat} {f : Fs} (xs : List Value) (h : FcC w (Nb n bl) f xs) (hn : n ≤ w.heap.size) (hb : bl < w.heap.size) (c : Nat) (hc : f.len = c) : Slc (w.alloc (.cells xs.toArray 25)) (Nb n bl) f (some ⟨w.heap.size, 0, none⟩) c := Slc.freshP xs h ⟨hn, by omega⟩ c hc
/-- What a call that reads a tree answers and leaves. -/
def PostEc (rb o q : Nat) (w : World) (res : Rs Ex) (e : Ending) (w' : World) : Prop :=
  match res with
  | ⟨none⟩ => False
  | ⟨some (.inl (er, a))⟩ => e = RefV er a ∧ Keep rb w w'
  | ⟨some (.inr (x, ts))⟩ => ∃ ao cap, e = .returned (exV x ao cap) ∧ Slc w' (Nw w.heap.size) x.kids ao cap ∧ RdS w' rb o q ts ∧ Keep rb w w'
/-- What a call that reads trees in a row answers and leaves. -/
def PostFc (rb o q : Nat) (w : World) (res : Rs Fs) (e : Ending) (w' : World) : Prop :=
  match res with
  | ⟨none⟩ => False
  | ⟨some (.inl (er, a))⟩ => e = RefV er a ∧ Keep rb w w'
  | ⟨some (.inr (f, ts))⟩ => ∃ ao cap, e = .returned (.slice ao f.len cap) ∧ Slc w' (Nw w.heap.size) f ao cap ∧ RdS w' rb o q ts ∧ Keep rb w w'
/-- What Parse answers. -/
def PostRc (w : World) (res : Rs Ex) (e : Ending) (w' : World) : Prop :=
  match res with
  | ⟨none⟩ => False
  | ⟨some (.inl (er, a))⟩ => e = .returned (.tuple #[exV noEx none 0, .int .i64 (er : Nat), .int .i64 (a : Nat)]) ∧ Below w.heap.size w w'
  | ⟨some (.inr (x, _))⟩ => ∃ ao cap, e = .returned (.tuple #[exV x ao cap, .int .i64 0, .int .i64 0]) ∧ Slc w' (Nw w.heap.size) x.kids ao cap ∧ Below w.heap.size w w'
/-- A slice of trees that grows: in a block of its own; all below it lies elsewhere. -/
def AccGc (w : World) (n0 : Nat) (acc : Fs) (g cap : Nat) (xs : List Value) : Prop :=
  n0 ≤ g ∧ w.ownsRow 0 25 5 (.slice (some ⟨g, 0, none⟩) acc.len cap) acc.len xs ∧ FcC w (fun b => n0 ≤ b ∧ b ≠ g) acc xs
def Accc (w : World) (n0 : Nat) (acc : Fs) (v : Value) : Prop := ∃ g cap xs, v = .slice (some ⟨g, 0, none⟩) acc.len cap ∧ AccGc w n0 acc g cap xs
theorem AccGc.row {w : World} {n0 : Nat} {acc : Fs} {g cap : Nat} {xs : List Value} (h : AccGc w n0 acc g cap xs) : Row w (lab1 g) 1 25 5 (.slice (some ⟨g, 0, none⟩) acc.len cap) acc.len xs :=
  ⟨h.2.1, fun k hk => by simp [Value.ownBlock] at hk; subst hk; simp [lab1]⟩
theorem ownCells {cur : Array Value} {m : Nat} {xs : List Value} (h : cur.toList.take m = xs) (j : Nat) (u : Value) (hu : xs[j]? = some u) : cur[j]? = some u := by
  rw [← h, List.getElem?_take] at hu
  split at hu
  · simpa using hu
  · cases hu
theorem Accc.one {w : World} {n0 : Nat} {e : Ex} {ao : Option Addr} (cap : Nat) (h : Slc w (Nw n0) e.kids ao cap) (hn : n0 ≤ w.heap.size) :
    Accc (w.alloc (.cells #[.int .i64 e.k, .int .i64 e.n, stv e.nm, .slice ao e.kids.len cap, .int .i64 e.a] 25)) n0 (one e) (.slice (some ⟨w.heap.size, 0, none⟩) 1 1) := by
  refine ⟨w.heap.size, 1, _, rfl, hn, World.ownsRow_lit w _ 1 (Nat.zero_le _) (by unfold maxLen; omega) (by simp), ?_⟩
  exact (FcC.one cap h).mono (fun i hp hl => Below.heap_alloc w _ i hl) (by simp) (fun i hp hl => ⟨hp, Nat.ne_of_lt hl⟩)
theorem Accc.keep {rb n0 : Nat} {w w' : World} {acc : Fs} {v : Value} (h : Accc w n0 acc v) (k : Keep rb w w') (hn : rb < n0) : Accc w' n0 acc v := by
  obtain ⟨g, cap, xs, rfl, hg, ho, hf⟩ := h
  have r : Row w (fun b => if b = rb then 7 else 1) 1 25 5 (.slice (some ⟨g, 0, none⟩) acc.len cap) acc.len xs := ⟨ho, fun j hj => by simp [Value.ownBlock] at hj; subst hj; show (if g = rb then 7 else 1) = 1; rw [if_neg (by omega)]⟩
  have s : Step (fun x => x = 7) w (fun b => if b = rb then 7 else 1) w' (fun b => if b = rb then 7 else 1) := ⟨k.os, k.tape, k.output, k.size, fun _ _ => rfl, fun j hj hn => k.block j hj (fun e => hn (by simp [e]))⟩
  exact ⟨g, cap, xs, rfl, hg, (r.step s (by decide)).1, hf.mono (fun i hp hl => k.block i hl (by have := hp.1; omega)) k.size (fun _ h _ => h)⟩
theorem Accc.sl {w : World} {n0 : Nat} {acc : Fs} {v : Value} (h : Accc w n0 acc v) : ∃ ao cap, v = .slice ao acc.len cap ∧ Slc w (Nw n0) acc ao cap := by
  obtain ⟨g, cap, xs, rfl, h⟩ := h
  refine ⟨_, cap, rfl, ?_⟩
  obtain ⟨hlen, ho | ⟨g', cap', cur, hv, -, hb, hc, hm, hsz, hcell⟩⟩ := h.2.1
  · cases ho.1
  · simp only [Value.slice.injEq, Option.some.injEq, Addr.mk.injEq, true_and, and_true] at hv
    obtain ⟨rfl, rfl⟩ := hv
    exact .inr ⟨g, xs, cur, rfl, h.1, lt_of_block hb, hc, hb, hsz, fun j u hu => ownCells hcell j u hu, h.2.2.mono (fun _ _ _ => rfl) (Nat.le_refl _) (fun _ hp _ => hp.1)⟩
/-- One more. -/
theorem Accc.push {w w2 : World} {o2 : Nat → Nat} {n0 n1 g cap g2 c2 : Nat} {acc : Fs} {xs : List Value} {e : Ex} {ao : Option Addr} {ce : Nat} (h : AccGc w n0 acc g cap xs) (S : Slc w (Nw n1) e.kids ao ce) (hn1 : g < n1) (hw : n0 ≤ w.heap.size)
    (s : Step (fun x => x = 1) w (lab1 g) w2 o2) (r : Row w2 o2 1 25 5 (.slice (some ⟨g2, 0, none⟩) (acc.len + 1) c2) (acc.len + 1) (xs ++ [.int .i64 e.k, .int .i64 e.n, stv e.nm, .slice ao e.kids.len ce, .int .i64 e.a])) :
    Accc w2 n0 (acc.snoc e) (.slice (some ⟨g2, 0, none⟩) (acc.len + 1) c2) := by
  have hl : (acc.snoc e).len = acc.len + 1 := Fs.len_snoc acc e
  have h2 : o2 g2 = 1 := r.2 g2 rfl
  have hlt2 : g2 < w2.heap.size := r.lt rfl
  have hg2 : n0 ≤ g2 := by
    by_cases hlt : g2 < w.heap.size
    · have := (s.lab g2 hlt).symm.trans h2
      unfold lab1 at this
      by_cases e : g2 = g
      · rw [e]; exact h.1
      · rw [if_neg e] at this; cases this
    · omega
  have hb : ∀ k, (n0 ≤ k ∧ k ≠ g) → k < w.heap.size → w2.heap[k]? = w.heap[k]? := fun k hk hl => s.block k hl (by unfold lab1; rw [if_neg hk.2]; decide)
  have hq : ∀ k, (n0 ≤ k ∧ k ≠ g) → k < w.heap.size → (n0 ≤ k ∧ k ≠ g2) := fun k hk hl => ⟨hk.1, fun e => by
    have := (s.lab k hl).symm.trans (e ▸ h2)
    unfold lab1 at this
    rw [if_neg hk.2] at this
    cases this⟩
  refine ⟨g2, c2, xs ++ [.int .i64 e.k, .int .i64 e.n, stv e.nm, .slice ao e.kids.len ce, .int .i64 e.a], by rw [hl], hg2, by rw [hl]; exact r.1, ?_⟩
  have F1 := h.2.2.mono hb s.size hq
  have S1 : Slc w2 (fun b => n0 ≤ b ∧ b ≠ g2) e.kids ao ce := S.mono (fun k hk hl => hb k ⟨by have hk : n1 ≤ k := hk; have := h.1; omega, by have hk : n1 ≤ k := hk; omega⟩ hl) s.size (fun k hk hl => hq k ⟨by have hk : n1 ≤ k := hk; have := h.1; omega, by have hk : n1 ≤ k := hk; omega⟩ hl)
  exact F1.app (FcC.one ce S1)
end Go.Proofs.YtafnlhnenmpfoaaGreatDoor
namespace Go.Proofs.YtafnlhnenmpfoaaGreatDoor
open Go.ChangeShapes Go.WideShapes Go.ChangeAt Go.RowKit
set_option linter.unusedVariables false

/-- The program's reader of rows does as a plain one. -/
def RecOkc (rec : Rdr) : Prop :=
  ∀ (w : World) (rb row o q : Nat) (ts : List Tk), row ≤ 8 → o ≤ 64 → q ≤ 4 → RdS w rb o q ts → Tabs rb w → rec row o q ts ≠ .out → Calls Tryz.prog 79 #[.pointer (some ⟨rb, 0, none⟩), .int .i64 (row : Nat)] w (PostEc rb o q w (rec row o q ts))
set_option maxRecDepth 100000 in
theorem query_rc {rec : Rdr} (R : RecOkc rec) {w : World} {rb o q : Nat} {ts : List Tk} (ho : o ≤ 64) (hq : q ≤ 4) (h : RdS w rb o q ts) (T : Tabs rb w) (hn : rec 1 o q ts ≠ .out) :
    Calls Tryz.prog 42 #[.pointer (some ⟨rb, 0, none⟩)] w (PostEc rb o q w (rec 1 o q ts)) := by
  have hrb := h.lt
  have K0 : Keep rb w (w.alloc exZ) := (Keep.refl rb w).alloc _
  have c := R (w.alloc exZ) rb 1 o q ts (by omega) ho hq (h.alloc _) (T.keep K0) hn
  have Z0 : (w.alloc exZ).heap[w.heap.size]? = some exZ := heap_alloc_new w _
  have hs0 : w.heap.size ≤ (w.alloc exZ).heap.size := K0.size
  have hs1 : w.heap.size < (w.alloc exZ).heap.size := by simp
  generalize hres : rec 1 o q ts = res at *
  cases res using Rs.on with
  | out => exact absurd rfl hn
  | bad er a =>
    show Calls _ _ _ _ (fun e w' => e = RefV er a ∧ Keep rb w w')
    have c : Calls _ _ _ _ (fun e w' => e = RefV er a ∧ Keep rb (w.alloc exZ) w') := c
    clear hn hres
    go_enter Tryz.func42, Tryz.ntmps42
    go_wp2_with fail
    refine c.mono ?_
    rintro e w2 ⟨rfl, k2⟩
    have K2 := K0.trans k2
    clear c k2 K0 Z0 T h
    go_wp2
    exact ⟨rfl, rfl, K2⟩
  | ok x t2 =>
    show Calls _ _ _ _ (fun e w' => ∃ ao cap, e = .returned (exV x ao cap) ∧ Slc w' (Nw w.heap.size) x.kids ao cap ∧ RdS w' rb o q t2 ∧ Keep rb w w')
    have c : Calls _ _ _ _ (fun e w' => ∃ ao cap, e = .returned (exV x ao cap) ∧ Slc w' (Nw (w.alloc exZ).heap.size) x.kids ao cap ∧ RdS w' rb o q t2 ∧ Keep rb (w.alloc exZ) w') := c
    clear hn hres
    go_enter Tryz.func42, Tryz.ntmps42
    go_wp2_with fail
    refine c.mono ?_
    rintro e w2 ⟨ao, cap, rfl, S2, R2, k2⟩
    have Z2 := k2.blk Z0 (by omega)
    have K2 := K0.trans k2
    have KE := K2.set5 (Nat.le_refl _) (.int .i64 x.k) (.int .i64 x.n) (stv x.nm) (.slice ao x.kids.len cap) (.int .i64 x.a)
    have RE := R2.set5 hrb (.int .i64 x.k) (.int .i64 x.n) (stv x.nm) (.slice ao x.kids.len cap) (.int .i64 x.a)
    have SE := (S2.set5 hs1 (.int .i64 x.k) (.int .i64 x.n) (stv x.nm) (.slice ao x.kids.len cap) (.int .i64 x.a)).low hs0
    have ZE := set5k (.int .i64 x.k) (.int .i64 x.n) (stv x.nm) (.slice ao x.kids.len cap) (.int .i64 x.a) Z2
    obtain ⟨z0, z1, z2, z3, z4, zf⟩ := box5 Z2
    obtain ⟨u0, u1, u2, u3, u4, -⟩ := box5 ZE
    clear c k2 K0 Z0 T h K2 S2 R2 Z2 ZE
    unfold exV
    go_wp2
    exact bodyPost_ret (v := exV x ao cap) (by simp [results, Tryz.results42, go_sem, u0, u1, u2, u3, u4, exV]) rfl ⟨ao, cap, rfl, SE, RE, KE⟩
end Go.Proofs.YtafnlhnenmpfoaaGreatDoor
