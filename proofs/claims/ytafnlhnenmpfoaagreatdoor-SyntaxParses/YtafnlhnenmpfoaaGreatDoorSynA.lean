/- The reader's small calls. -/
import Derived.Test.YtafnlhnenmpfoaaGreatDoorLexV
import Derived.WalkLawsBesides
import Derived.Deep.RegionHeld3
namespace Go.Proofs.YtafnlhnenmpfoaaGreatDoor
open Go.ChangeShapes Go.WideShapes Go.ChangeAt Go.RowKit
set_option linter.unusedVariables false

structure Sc (l : List UInt8) (n g : Nat) (ps : List Pc) (w wr : World) (o : Nat → Nat) (cap : Nat) (v : Value) (i : Nat) (ts : List Tk) : Prop where
  row : Row wr o 4 47 4 v ts.length (tcells ts)
  pcs : Row wr o 1 74 3 (.slice (some ⟨g, 0, none⟩) ps.length cap) ps.length (pcells ps)
  ile : i ≤ ps.length
  len : ts.length ≤ i
  run : preR ts (runP (ps.drop i) (endR n)) = lexA l
  stp : Step I4 w (fun _ => 0) wr o
theorem I4_below {w wr : World} {o : Nat → Nat} (h : Step I4 w (fun _ => 0) wr o) : Below w.heap.size w wr := h.below (fun _ _ h => by rcases h with h | h | h | h <;> cases h)
theorem bdr {B : Nat} {w w' : World} (h : Below B w w') (n : Nat) : Below B w (w'.drewN n) := ⟨h.os, h.tape, h.output, h.size, h.block⟩
set_option maxRecDepth 100000 in
set_option maxHeartbeats 2000000 in
theorem scan_c (s : ByteArray) (w : World) (hW : Wd w) (hE : Ers w) (hs : s.size ≤ maxLen) :
    Calls Tryz.prog 23 #[.string s] w fun e w' => ∃ v er at0, e = .returned (.tuple #[v, .int .i64 er, .int .i64 at0]) ∧ ScanOut w w' v er at0 (scanA s.data.toList) ∧ Below w.heap.size w w' := by
  unfold maxLen at hs
  have HL : Hid (s.data.toList.length = s.size) := data_len s
  by_cases hbig : 2000 < s.size
  · have fin : scanA s.data.toList = .inl (113, 0) := by
      unfold scanA
      rw [HL.out, if_pos hbig]
    have hI : (2000 : Int) < (s.size : Int) := by omega
    go_enter Tryz.func23, Tryz.ntmps23
    go_wp2
    go_ret3
    exact ⟨_, _, _, rfl, .inl ⟨113, 0, fin, rfl, rfl, rfl⟩, b0 _⟩
  · have HF : Hid (scanA s.data.toList = lexA s.data.toList) := by
      show _ = _
      unfold scanA
      rw [HL.out, if_neg hbig]
    have hI : ¬ (2000 : Int) < (s.size : Int) := by omega
    obtain ⟨ii, hii, hz0, hz1, hz2⟩ := info_parts infoToken
    go_enter Tryz.func23, Tryz.ntmps23
    go_wp2_with (go_at_call 39; refine (cut_c s _ (by omega)).mono ?_; rintro e w1 ⟨v1, ps, o1, rfl, R1, hrun, hok, hl1, hl0, S1⟩; refine Hid.out ?_)
    refine Lib.hid ?_
    obtain ⟨g, cap, rfl, _, hc1, hc2, _, _, _⟩ := R1.pos hl0
    have J0 : Sc s.data.toList s.size g ps w w1 o1 cap (.slice none 0 0) 0 [] := ⟨Row.nil _ _ _ _ _, R1, by omega, by simp, hrun, S1.mono (fun i h => by rcases h with h | h | h; exact .inl h; exact .inr (.inl h); exact .inr (.inr (.inl h)))⟩
    unfold maxLen at hc2
    have HO : Hid (∀ p, p ∈ ps → PcOk p) := hok
    clear R1 hrun hok S1
    go_wp2_with fail
    go_loopw [5, 16] (fun v5 v16 wr => ∃ i ts o, v16 = .int .i64 (i : Nat) ∧ Sc s.data.toList s.size g ps w wr o cap v5 i ts) (fun _ v16 _ => ps.length - (intOf v16).toNat)
    case atStart => exact ⟨0, [], o1, by go_num, J0⟩
    case round =>
      clear J0
      obtain ⟨i, ts, o, rfl, J⟩ := hrel
      have hB := I4_below J.stp
      have hile := J.ile
      have hlen := J.len
      by_cases hi : i < ps.length
      · have hiI : (i : Int) < (ps.length : Int) := by omega
        obtain ⟨g', cap', hg', hlg, _, _, hglt, hcell, hfr⟩ := J.pcs.pos hl0
        injection hg' with hg1 hg2 hg3
        injection hg1 with hg1
        injection hg1 with hg1
        subst hg1 hg3
        obtain ⟨p0, p1, p2⟩ := pcells_at ps i hi
        have c0 : wr.cell? ⟨g, i * 3, none⟩ = some (.int .i64 ((ps[i]).k : Nat)) := (hcell _ (by omega)).trans p0
        have c1 : wr.cell? ⟨g, i * 3 + 1, none⟩ = some (.string ⟨(ps[i]).t.toArray⟩) := (hcell _ (by omega)).trans p1
        have c2 : wr.cell? ⟨g, i * 3 + 2, none⟩ = some (.int .i64 ((ps[i]).a : Nat)) := (hcell _ (by omega)).trans p2
        have hpo := HO.out _ (List.getElem_mem hi)
        have hst := run_step ps i hi (endR s.size)
        have hrn := J.run
        rw [hst] at hrn
        generalize ps[i] = p at c0 c1 c2 hpo hrn
        obtain ⟨k, t, a⟩ := p
        obtain ⟨hk4, ht2, ha2⟩ := hpo
        simp only at c0 c1 c2 hk4 ht2 ha2 hrn
        have HR := Lib.hid hrn
        have HJ := Lib.hid J
        clear hcell hfr p0 p1 p2 hst hrn J hglt hlg hg2
        by_cases hk0 : k = 0
        · subst hk0
          have JN : ∀ o2 : Obj, Sc s.data.toList s.size g ps w (wr.alloc o2) o cap u5 (i + 1) ts := fun o2 => by
            have J := HJ.out
            exact ⟨J.row.step (allocStep (fun _ => False) wr o o2) (by simp), J.pcs.step (allocStep (fun _ => False) wr o o2) (by simp), by omega, by omega, HR.out, J.stp.trans (allocStep _ wr o o2)⟩
          have HN := Lib.hid JN
          clear JN
          go_wp2
          go_roundw
          case rel => (try ((repeat apply Exists.intro); refine ⟨?_, rfl⟩)); exact ⟨i + 1, ts, o, by go_num, HN.out _⟩
          case measure => simp [intOf]; omega
        · have hk0I : ¬ (k : Int) = 0 := by omega
          have hW2 : ∀ o2 : Obj, Wd (wr.alloc o2) := fun o2 => (hW.below hB).below (b1 _ _)
          have hE2 : ∀ o2 : Obj, Ers (wr.alloc o2) := fun o2 => (hE.below hB).below (b1 _ _)
          have hts : (⟨t.toArray⟩ : ByteArray).size ≤ 2000 := by show t.toArray.size ≤ 2000; simpa using ht2
          go_wp2_with (go_at_call 40; refine (token_c k ⟨t.toArray⟩ a _ (hW2 _) (hE2 _) hk4 (by omega) hts).mono ?_; rintro e w2 ⟨rfl, hb2⟩; refine Hid.out ?_)
          refine Lib.hid ?_
          have hbx : w2.heap[wr.heap.size]? = some (.cells #[.int .i64 (k : Nat), .string ⟨t.toArray⟩, .int .i64 (a : Nat)] 74 (0, 0)) := by
            rw [hb2.block _ (by simp)]
            exact heap_alloc_new _ _
          have hbw : Below wr.heap.size wr w2 := (b1 _ _).trans (hb2.mono (by simp))
          have d2 : w2.cell? ⟨wr.heap.size, 2, none⟩ = some (.int .i64 (a : Nat)) := by rw [cell_of_row _ _ _ _ _ _ hbx]; rfl
          obtain ⟨X, hX⟩ : ∃ X, X = ptok k t a := ⟨_, rfl⟩
          rw [← hX]
          have HX := Lib.hid hX
          have HBX := Lib.hid hbx
          clear hX c0 c1 c2 hbx hb2 hW2 hE2
          have hlt2 : wr.heap.size < w2.heap.size := by
            have := lt_of_block HBX.out
            exact this
          cases X with
          | inl er =>
            have her := ptok_err HX.out.symm
            have her0 : ¬ (er : Int) = 0 := by omega
            have herb : ((er : Int) != 0) = true := by simpa using her0
            have fin : lexA s.data.toList = .inl (er, a) := by
              rw [← HR.out]
              unfold shutP
              rw [if_neg hk0, ← HX.out, preR_inl]
            have HN := Lib.hid fin
            clear fin her
            simp only [outT]
            go_wp2
            go_quiet (fail)
            go_wp2
            go_ret3
            exact ⟨_, _, _, rfl, .inl ⟨er, a, HF.out.trans HN.out, rfl, rfl, rfl⟩, bdr ((hB.trans (hbw.mono hB.size)).trans ((b1 _ _).mono (by have := hB.size; omega))) _⟩
          | inr x =>
            obtain ⟨xk, xn, xt, xa⟩ := x
            have J := HJ.out
            have s2 : Step (fun _ => False) wr o w2 o := Step.ofBelow o hbw
            have R3' := (J.row.step s2 (by simp)).step ((allocStep (fun _ => False) w2 o (.cells #[.int .i64 (xk : Nat), .int .i64 xn, .string ⟨xt.toArray⟩, .int .i64 (xa : Nat)] 47)).alloc (.cells #[.int .i64 (xk : Nat), .int .i64 xn, .string ⟨xt.toArray⟩, .int .i64 (xa : Nat)] 47)) (by simp)
            have hps : ts.length ≤ 2001 := by omega
            clear J s2
            simp only [outT, tka]
            go_wp2_with (first | (at_builtin; refine wpList_append_lab rfl (.tmp 33) (.tmp 35) 39 rfl 47 ii (.agg #[.int .i64 0, .int .i64 0, .string ⟨#[]⟩, .int .i64 0]) 4 40 Tryz.underlying39 hii hz0 hz1 hz2 rfl (by decide) o 4 _ ts.length (tcells ts) rfl R3' ⟨w2.heap.size + 1, 0, none⟩ 1 1 [.int .i64 (xk : Nat), .int .i64 xn, .string ⟨xt.toArray⟩, .int .i64 (xa : Nat)] rfl rfl ?c1 ?c2 (by decide) ?c3 ?c4 ?_) | go_in)
            case c1 => exact new_four_at (by simp) _ _ _ _ _
            case c2 => intro u hu; simp at hu; rcases hu with rfl | rfl | rfl | rfl <;> rfl
            case c3 => unfold maxLen; omega
            case c4 => omega
            intro g5 cap5 w5 o5 R5 s5'
            have J := HJ.out
            have s5 : Step (fun k => k = 4) wr o w5 o5 := (((Step.ofBelow (I := fun k => k = 4) o hbw).alloc _).alloc _).trans s5'
            have RN : preR (ts ++ [⟨xk, xn, xt, xa⟩]) (runP (ps.drop (i + 1)) (endR s.size)) = lexA s.data.toList := by
              rw [preR_more, ← HR.out]
              unfold shutP
              rw [if_neg hk0, ← HX.out]
            have RR : Row w5 o5 4 47 4 (.slice (some ⟨g5, 0, none⟩) (ts.length + 1) cap5) (ts ++ [Tk.mk xk xn xt xa]).length (tcells (ts ++ [Tk.mk xk xn xt xa])) := by
              rw [tcells_more, List.length_append]
              exact R5
            have JN : Sc s.data.toList s.size g ps w w5 o5 cap (.slice (some ⟨g5, 0, none⟩) (ts.length + 1) cap5) (i + 1) (ts ++ [Tk.mk xk xn xt xa]) := ⟨RR, J.pcs.step s5 (by decide), by omega, by simp; omega, RN, J.stp.trans (s5.mono (fun i h => .inr (.inr (.inr h))))⟩
            have HN := Lib.hid JN
            clear R3' R5 s5' RR J s5 RN JN
            go_wp2
            go_roundw
            case rel => (try ((repeat apply Exists.intro); refine ⟨?_, rfl⟩)); exact ⟨i + 1, _, o5, by go_num, HN.out⟩
            case measure => simp [intOf]; omega
      · obtain rfl : i = ps.length := by omega
        have hps : ts.length ≤ 2001 := by omega
        have HJ := Lib.hid J
        have R3' := J.row.step (allocStep (fun _ => False) wr o (.cells #[.int .i64 0, .int .i64 0, .string ⟨#[]⟩, .int .i64 (s.size : Nat)] 47)) (by simp)
        clear J
        go_wp2_with (first | (at_builtin; refine wpList_append_lab rfl (.tmp 38) (.tmp 42) 39 rfl 47 ii (.agg #[.int .i64 0, .int .i64 0, .string ⟨#[]⟩, .int .i64 0]) 4 40 Tryz.underlying39 hii hz0 hz1 hz2 rfl (by decide) o 4 _ ts.length (tcells ts) rfl R3' ⟨wr.heap.size, 0, none⟩ 1 1 [.int .i64 0, .int .i64 0, .string ⟨#[]⟩, .int .i64 (s.size : Nat)] rfl rfl ?c1 ?c2 (by decide) ?c3 ?c4 ?_) | go_in)
        case c1 => exact new_four_at (by simp) _ _ _ _ _
        case c2 => intro u hu; simp at hu; rcases hu with rfl | rfl | rfl | rfl <;> rfl
        case c3 => unfold maxLen; omega
        case c4 => omega
        intro g5 cap5 w5 o5 R5 s5'
        have J := HJ.out
        have s5 : Step (fun k => k = 4) wr o w5 o5 := (allocStep _ wr o _).trans s5'
        have S5 := J.stp.trans (s5.mono (fun i h => .inr (.inr (.inr h))))
        have RN : lexA s.data.toList = .inr (ts ++ [⟨0, 0, [], s.size⟩]) := by
          have := J.run
          rw [List.drop_length] at this
          rw [← this]
          exact preR_inr _ _
        have RR : Row w5 o5 4 47 4 (.slice (some ⟨g5, 0, none⟩) (ts.length + 1) cap5) (ts ++ [Tk.mk 0 0 [] s.size]).length (tcells (ts ++ [Tk.mk 0 0 [] s.size])) := by
          rw [tcells_more, List.length_append]
          exact R5
        have OR := RR.fresh S5
        have hbe := I4_below S5
        have HN := Lib.hid RN
        clear R3' R5 s5' RR J s5 RN S5
        go_wp2
        go_ret3
        exact ⟨_, _, _, rfl, .inr ⟨_, HF.out.trans HN.out, rfl, rfl, OR⟩, hbe⟩
end Go.Proofs.YtafnlhnenmpfoaaGreatDoor
namespace Go.Proofs.YtafnlhnenmpfoaaGreatDoor
open Go.ChangeShapes Go.WideShapes Go.ChangeAt Go.RowKit
set_option linter.unusedVariables false

/-- A slice that reads as tokens. -/
def Tks (w : World) (v : Value) (ts : List Tk) : Prop :=
  ∃ ao cap, v = .slice ao ts.length cap ∧ (0 < ts.length → ∃ g, ao = some ⟨g, 0, none⟩ ∧ g < w.heap.size ∧ ∀ j, j < ts.length * 4 → w.cell? ⟨g, j, none⟩ = (tcells ts)[j]?)
theorem Tks.of {w : World} {b : Nat} {v : Value} {ts : List Tk} (h : w.ownsRow b 47 4 v ts.length (tcells ts)) : Tks w v ts := by
  have r : Row w (fun _ => 0) 0 47 4 v ts.length (tcells ts) := ⟨ownsRow_base0 h, fun _ _ => rfl⟩
  by_cases h0 : 0 < ts.length
  · obtain ⟨g, cap, rfl, _, _, _, hlt, hc, _⟩ := r.pos h0
    exact ⟨_, _, rfl, fun _ => ⟨g, rfl, hlt, hc⟩⟩
  · obtain ⟨ao, cap, rfl⟩ := r.form
    exact ⟨ao, cap, rfl, fun h => absurd h h0⟩
theorem Tks.nil (w : World) : Tks w (.slice none 0 0) [] := ⟨none, 0, rfl, fun h => by cases h⟩
theorem Tks.below {w w' : World} {v : Value} {ts : List Tk} (h : Tks w v ts) (b : Below w.heap.size w w') : Tks w' v ts := by
  obtain ⟨ao, cap, rfl, hx⟩ := h
  refine ⟨ao, cap, rfl, fun h0 => ?_⟩
  obtain ⟨g, rfl, hlt, hc⟩ := hx h0
  exact ⟨g, rfl, Nat.lt_of_lt_of_le hlt b.size, fun j hj => (b.cell (p := ⟨g, j, none⟩) hlt).trans (hc j hj)⟩
/-- What is read of one token. -/
theorem Tks.at {w : World} {v : Value} {ts : List Tk} (h : Tks w v ts) (i : Nat) (hi : i < ts.length) : ∃ g cap, v = .slice (some ⟨g, 0, none⟩) ts.length cap ∧
    w.cell? ⟨g, i * 4, none⟩ = some (.int .i64 ((ts[i]).k : Nat)) ∧ w.cell? ⟨g, i * 4 + 1, none⟩ = some (.int .i64 (ts[i]).n) ∧ w.cell? ⟨g, i * 4 + 2, none⟩ = some (.string ⟨(ts[i]).t.toArray⟩) ∧ w.cell? ⟨g, i * 4 + 3, none⟩ = some (.int .i64 ((ts[i]).a : Nat)) := by
  obtain ⟨ao, cap, rfl, hx⟩ := h
  obtain ⟨g, rfl, hlt, hc⟩ := hx (by omega)
  obtain ⟨p0, p1, p2, p3⟩ := tcells_at ts i hi
  exact ⟨g, cap, rfl, (hc _ (by omega)).trans p0, (hc _ (by omega)).trans p1, (hc _ (by omega)).trans p2, (hc _ (by omega)).trans p3⟩
theorem ScanOut.inr {w w' : World} {v : Value} {er at0 : Int} {R : Res} {ts : List Tk} (h : ScanOut w w' v er at0 R) (hR : R = .inr ts) : er = 0 ∧ at0 = 0 ∧ w'.ownsRow w.heap.size 47 4 v ts.length (tcells ts) := by
  rcases h with ⟨e, p, h1, _⟩ | ⟨us, h1, h2, h3, h4⟩
  · rw [h1] at hR; cases hR
  · rw [h1] at hR
    injection hR with hR
    subst hR
    exact ⟨h2, h3, h4⟩
theorem ScanOut.inl {w w' : World} {v : Value} {er at0 : Int} {R : Res} {e p : Nat} (h : ScanOut w w' v er at0 R) (hR : R = .inl (e, p)) : er = (e : Nat) ∧ at0 = (p : Nat) ∧ v = .slice none 0 0 := by
  rcases h with ⟨e', p', h1, h2, h3, h4⟩ | ⟨us, h1, _⟩
  · rw [h1] at hR
    injection hR with hR
    injection hR with a b
    subst a b
    exact ⟨h3, h4, h2⟩
  · rw [h1] at hR; cases hR
end Go.Proofs.YtafnlhnenmpfoaaGreatDoor
namespace Go.Proofs.YtafnlhnenmpfoaaGreatDoor
open Go.ChangeShapes Go.WideShapes Go.ChangeAt Go.RowKit
set_option linter.unusedVariables false

/-- What a call of the reader's leaves alone: all old blocks but its own one. -/
structure Keep (rb : Nat) (w w' : World) : Prop where
  os : w'.os = w.os
  tape : w'.tape = w.tape
  output : w'.output = w.output
  size : w.heap.size ≤ w'.heap.size
  block : ∀ k, k < w.heap.size → k ≠ rb → w'.heap[k]? = w.heap[k]?
theorem Keep.refl (rb : Nat) (w : World) : Keep rb w w := ⟨rfl, rfl, rfl, Nat.le_refl _, fun _ _ _ => rfl⟩
theorem Keep.trans {rb : Nat} {a b c : World} (h : Keep rb a b) (k : Keep rb b c) : Keep rb a c :=
  ⟨k.os.trans h.os, k.tape.trans h.tape, k.output.trans h.output, Nat.le_trans h.size k.size, fun i hi hn => (k.block i (Nat.lt_of_lt_of_le hi h.size) hn).trans (h.block i hi hn)⟩
theorem Keep.ofBelow {rb : Nat} {w w' : World} (h : Below w.heap.size w w') : Keep rb w w' := ⟨h.os, h.tape, h.output, h.size, fun k hk _ => h.block k hk⟩
theorem Keep.alloc {rb : Nat} {a w : World} (h : Keep rb a w) (ob : Obj) : Keep rb a (w.alloc ob) :=
  h.trans ⟨rfl, rfl, rfl, by simp, fun k hk _ => Below.heap_alloc w ob k hk⟩
theorem Keep.drew {rb : Nat} {a w : World} (h : Keep rb a w) : Keep rb a w.drew := ⟨h.os, h.tape, h.output, h.size, h.block⟩
theorem Keep.set {rb : Nat} {a w : World} (h : Keep rb a w) (p : Addr) (u : Value) (hp : a.heap.size ≤ p.block ∨ p.block = rb) : Keep rb a (w.setCell p u) :=
  ⟨h.os, h.tape, h.output, by simpa using h.size, fun k hk hn => (heap_setCell_other w p k u (fun e => by
    rcases hp with hp | hp
    · omega
    · exact hn (e.trans hp))).trans (h.block k hk hn)⟩
theorem Keep.below {rb n : Nat} {w w' : World} (h : Keep rb w w') (hn : n ≤ rb) (hs : rb < w.heap.size) : Below n w w' := ⟨h.os, h.tape, h.output, h.size, fun k hk => h.block k (by omega) (by omega)⟩
theorem Keep.cell {rb : Nat} {w w' : World} (h : Keep rb w w') {b : Nat} (hb : b < w.heap.size) (hn : b ≠ rb) (j : Nat) : w'.cell? ⟨b, j, none⟩ = w.cell? ⟨b, j, none⟩ := World.cell?_of_block (a := ⟨b, j, none⟩) (h.block b hb hn)
theorem Keep.frozen {rb : Nat} {w w' : World} (h : Keep rb w w') {b : Nat} (hb : b < w.heap.size) (hn : b ≠ rb) (j : Nat) : w'.frozen? ⟨b, j, none⟩ = w.frozen? ⟨b, j, none⟩ := World.frozen?_of_block (a := ⟨b, j, none⟩) (h.block b hb hn)

/-- A text as a value. -/
abbrev stv (t : List UInt8) : Value := .string ⟨t.toArray⟩
/-- The cells of trees in a row; all that lies below them lies in blocks of P. -/
def Fc (w : World) (P : Nat → Prop) : Fs → List Value → Prop
  | ⟨none⟩, xs => xs = []
  | ⟨some ⟨k, n, nm, a, ks, r⟩⟩, xs => ∃ ao cap ys, xs = .int .i64 k :: .int .i64 n :: stv nm :: .slice ao ks.len cap :: .int .i64 a :: ys ∧
      (ks = .nil ∨ ∃ b off zs, ao = some ⟨b, off, none⟩ ∧ P b ∧ b < w.heap.size ∧ (∀ j u, zs[j]? = some u → w.cell? ⟨b, off + j, none⟩ = some u) ∧ Fc w P ks zs) ∧ Fc w P r ys
/-- A slice of trees. -/
def Sl (w : World) (P : Nat → Prop) (ks : Fs) (ao : Option Addr) : Prop :=
  ks = .nil ∨ ∃ b off zs, ao = some ⟨b, off, none⟩ ∧ P b ∧ b < w.heap.size ∧ (∀ j u, zs[j]? = some u → w.cell? ⟨b, off + j, none⟩ = some u) ∧ Fc w P ks zs
/-- The value of a tree. -/
def exV (e : Ex) (ao : Option Addr) (cap : Nat) : Value := .agg #[.int .i64 e.k, .int .i64 e.n, stv e.nm, .slice ao e.kids.len cap, .int .i64 e.a]
theorem Fc.len {w : World} {P : Nat → Prop} : ∀ {f : Fs} {xs : List Value}, Fc w P f xs → xs.length = f.len * 5
  | ⟨none⟩, xs, h => by
    have h : xs = [] := h
    subst h
    rfl
  | ⟨some ⟨k, n, nm, a, ks, r⟩⟩, xs, h => by
    obtain ⟨ao, cap, ys, rfl, _, h2⟩ := h
    have := Fc.len h2
    simp only [List.length_cons, Fs.len]
    omega
theorem Fc.mono {w w' : World} {P Q : Nat → Prop} (hb : ∀ k, P k → k < w.heap.size → w'.heap[k]? = w.heap[k]?) (hs : w.heap.size ≤ w'.heap.size) (hq : ∀ k, P k → k < w.heap.size → Q k) : ∀ {f : Fs} {xs : List Value}, Fc w P f xs → Fc w' Q f xs
  | ⟨none⟩, xs, h => h
  | ⟨some ⟨k, n, nm, a, ks, r⟩⟩, xs, h => by
    obtain ⟨ao, cap, ys, rfl, h1, h2⟩ := h
    refine ⟨ao, cap, ys, rfl, ?_, Fc.mono hb hs hq h2⟩
    rcases h1 with h1 | ⟨b, off, zs, rfl, hp, hlt, hc, h3⟩
    · exact .inl h1
    · exact .inr ⟨b, off, zs, rfl, hq b hp hlt, Nat.lt_of_lt_of_le hlt hs, fun j u hu => (World.cell?_of_block (a := ⟨b, off + j, none⟩) (hb b hp hlt)).trans (hc j u hu), Fc.mono hb hs hq h3⟩
theorem Sl.mono {w w' : World} {P Q : Nat → Prop} {f : Fs} {ao : Option Addr} (hb : ∀ k, P k → k < w.heap.size → w'.heap[k]? = w.heap[k]?) (hs : w.heap.size ≤ w'.heap.size) (hq : ∀ k, P k → k < w.heap.size → Q k) (h : Sl w P f ao) : Sl w' Q f ao := by
  rcases h with h | ⟨b, off, zs, rfl, hp, hlt, hc, h3⟩
  · exact .inl h
  · exact .inr ⟨b, off, zs, rfl, hq b hp hlt, Nat.lt_of_lt_of_le hlt hs, fun j u hu => (World.cell?_of_block (a := ⟨b, off + j, none⟩) (hb b hp hlt)).trans (hc j u hu), h3.mono hb hs hq⟩
/-- Blocks behind the reader's. -/
abbrev Past (rb : Nat) : Nat → Prop := fun b => rb < b
theorem Fc.keep {rb : Nat} {w w' : World} {f : Fs} {xs : List Value} (h : Fc w (Past rb) f xs) (k : Keep rb w w') : Fc w' (Past rb) f xs := h.mono (fun i hp hl => k.block i hl (Nat.ne_of_gt hp)) k.size (fun _ h _ => h)
theorem Sl.keep {rb : Nat} {w w' : World} {f : Fs} {ao : Option Addr} (h : Sl w (Past rb) f ao) (k : Keep rb w w') : Sl w' (Past rb) f ao := h.mono (fun i hp hl => k.block i hl (Nat.ne_of_gt hp)) k.size (fun _ h _ => h)
theorem Fc.app {w : World} {P : Nat → Prop} : ∀ {f g : Fs} {xs ys : List Value}, Fc w P f xs → Fc w P g ys → Fc w P (f.app g) (xs ++ ys)
  | ⟨none⟩, g, xs, ys, h, k => by
    have h : xs = [] := h
    subst h
    exact k
  | ⟨some ⟨i, n, nm, a, ks, r⟩⟩, g, xs, ys, h, k => by
    obtain ⟨ao, cap, zs, rfl, h1, h2⟩ := h
    exact ⟨ao, cap, zs ++ ys, rfl, h1, Fc.app h2 k⟩
theorem Fc.one {w : World} {P : Nat → Prop} {e : Ex} {ao : Option Addr} (cap : Nat) (h : Sl w P e.kids ao) : Fc w P (one e) [.int .i64 e.k, .int .i64 e.n, stv e.nm, .slice ao e.kids.len cap, .int .i64 e.a] := ⟨ao, cap, [], rfl, h, rfl⟩
theorem Sl.of {w : World} {P : Nat → Prop} {f : Fs} {b : Nat} {xs : List Value} (hp : P b) (hlt : b < w.heap.size) (hc : ∀ j u, xs[j]? = some u → w.cell? ⟨b, 0 + j, none⟩ = some u) (h : Fc w P f xs) : Sl w P f (some ⟨b, 0, none⟩) := .inr ⟨b, 0, xs, rfl, hp, hlt, hc, h⟩
theorem Sl.nil (w : World) (P : Nat → Prop) (ao : Option Addr) : Sl w P .nil ao := .inl rfl

/-- The value of a token. -/
def tkV (x : Tk) : Value := .agg #[.int .i64 (x.k : Nat), .int .i64 x.n, stv x.t, .int .i64 (x.a : Nat)]
/-- The reader in memory: what comes next, what is open. -/
def RdS (w : World) (rb o q : Nat) (ts : List Tk) : Prop :=
  ∃ g cap all i, w.heap[rb]? = some (.cells #[.slice (some ⟨g, 0, none⟩) (all : List Tk).length cap, .int .i64 ((i : Nat) : Int), .int .i64 (o : Nat), .int .i64 (q : Nat)] 81 (0, 0)) ∧ g + 3 < rb ∧ (∀ j u, (tcells all)[j]? = some u → w.cell? ⟨g, j, none⟩ = some u) ∧ all.drop i = ts ∧ i ≤ all.length ∧ all.length ≤ 3000 ∧ all.length ≤ cap ∧ cap ≤ maxLen
theorem RdS.lt {w : World} {rb o q : Nat} {ts : List Tk} (h : RdS w rb o q ts) : rb < w.heap.size := by
  obtain ⟨g, cap, all, i, h1, _⟩ := h
  exact lt_of_block h1
/-- Steps that leave the reader alone. -/
theorem RdS.below {w w' : World} {rb o q : Nat} {ts : List Tk} (h : RdS w rb o q ts) (b : Below w.heap.size w w') : RdS w' rb o q ts := by
  have hlt := h.lt
  obtain ⟨g, cap, all, i, h1, h2, h4, h5⟩ := h
  exact ⟨g, cap, all, i, (b.block rb hlt).trans h1, h2, fun j u hu => (b.cell (p := ⟨g, j, none⟩) (show g < w.heap.size by omega)).trans (h4 j u hu), h5⟩
/-- A store behind the reader. -/
theorem RdS.set {w : World} {rb o q : Nat} {ts : List Tk} (h : RdS w rb o q ts) (p : Addr) (v : Value) (hp : rb < p.block) : RdS (w.setCell p v) rb o q ts := by
  obtain ⟨g, cap, all, i, h1, h2, h4, h5⟩ := h
  exact ⟨g, cap, all, i, (heap_setCell_other w p rb v (by omega)).trans h1, h2, fun j u hu => (World.cell?_of_block (a := ⟨g, j, none⟩) (heap_setCell_other w p g v (by omega))).trans (h4 j u hu), h5⟩
/-- A store into the blocks just ahead of the reader. -/
theorem RdS.setL {w : World} {rb o q : Nat} {ts : List Tk} (h : RdS w rb o q ts) (p : Addr) (v : Value) (hp : p.block < rb) (hp2 : rb ≤ p.block + 3) : RdS (w.setCell p v) rb o q ts := by
  obtain ⟨g, cap, all, i, h1, h2, h4, h5⟩ := h
  exact ⟨g, cap, all, i, (heap_setCell_other w p rb v (by omega)).trans h1, h2, fun j u hu => (World.cell?_of_block (a := ⟨g, j, none⟩) (heap_setCell_other w p g v (by omega))).trans (h4 j u hu), h5⟩
theorem RdS.alloc {w : World} {rb o q : Nat} {ts : List Tk} (h : RdS w rb o q ts) (ob : Obj) : RdS (w.alloc ob) rb o q ts := h.below ((Below.refl _ w).alloc (Nat.le_refl _) ob)
theorem tkcells_at : ∀ (l : List Tk) (i : Nat) (x : Tk), l[i]? = some x → (tcells l)[i * 4]? = some (.int .i64 (x.k : Nat)) ∧ (tcells l)[i * 4 + 1]? = some (.int .i64 x.n) ∧ (tcells l)[i * 4 + 2]? = some (stv x.t) ∧ (tcells l)[i * 4 + 3]? = some (.int .i64 (x.a : Nat))
  | [], i, x, h => by simp at h
  | p :: r, 0, x, h => by
    simp at h
    subst h
    exact ⟨rfl, rfl, rfl, rfl⟩
  | p :: r, i + 1, x, h => by
    have e : tcells (p :: r) = .int .i64 (p.k : Nat) :: .int .i64 p.n :: stv p.t :: .int .i64 (p.a : Nat) :: tcells r := rfl
    have e1 : (i + 1) * 4 = i * 4 + 1 + 1 + 1 + 1 := by omega
    have ih := tkcells_at r i x (by simpa using h)
    rw [e, e1]
    exact ih
/-- What a reader's call comes to. -/
abbrev RefV (er a : Nat) : Ending := .panicked [{ v := .iface 78 (.agg #[.int .i64 (er : Nat), .int .i64 (a : Nat)]), recovered := false }]
/-- Blocks that are new since. -/
abbrev Nw (n : Nat) : Nat → Prop := fun b => n ≤ b
theorem Sl.keepN {rb n : Nat} {w w' : World} {f : Fs} {ao : Option Addr} (h : Sl w (Nw n) f ao) (k : Keep rb w w') (hn : rb < n) : Sl w' (Nw n) f ao := h.mono (fun i hp hl => k.block i hl (by have hp : n ≤ i := hp; omega)) k.size (fun _ h _ => h)
theorem Sl.setN {n : Nat} {w : World} {f : Fs} {ao : Option Addr} (h : Sl w (Nw n) f ao) (p : Addr) (v : Value) (hp : p.block < n) : Sl (w.setCell p v) (Nw n) f ao := h.mono (fun i hp hl => heap_setCell_other w p i v (by have hp : n ≤ i := hp; omega)) (by simp) (fun _ h _ => h)
theorem Sl.allocN {n : Nat} {w : World} {f : Fs} {ao : Option Addr} (h : Sl w (Nw n) f ao) (ob : Obj) : Sl (w.alloc ob) (Nw n) f ao := h.mono (fun i hp hl => Below.heap_alloc w ob i hl) (by simp) (fun _ h _ => h)
theorem Sl.low {n m : Nat} {w : World} {f : Fs} {ao : Option Addr} (h : Sl w (Nw n) f ao) (hm : m ≤ n) : Sl w (Nw m) f ao := h.mono (fun i hp hl => rfl) (Nat.le_refl _) (fun i h _ => Nat.le_trans hm h)
theorem Fc.low {n m : Nat} {w : World} {f : Fs} {xs : List Value} (h : Fc w (Nw n) f xs) (hm : m ≤ n) : Fc w (Nw m) f xs := h.mono (fun i hp hl => rfl) (Nat.le_refl _) (fun i h _ => Nat.le_trans hm h)
theorem Fc.allocN {n : Nat} {w : World} {f : Fs} {xs : List Value} (h : Fc w (Nw n) f xs) (ob : Obj) : Fc (w.alloc ob) (Nw n) f xs := h.mono (fun i hp hl => Below.heap_alloc w ob i hl) (by simp) (fun _ h _ => h)
theorem Fc.setN {n : Nat} {w : World} {f : Fs} {xs : List Value} (h : Fc w (Nw n) f xs) (p : Addr) (v : Value) (hp : p.block < n) : Fc (w.setCell p v) (Nw n) f xs := h.mono (fun i hp hl => heap_setCell_other w p i v (by have hp : n ≤ i := hp; omega)) (by simp) (fun _ h _ => h)
theorem Fc.keepN {rb n : Nat} {w w' : World} {f : Fs} {xs : List Value} (h : Fc w (Nw n) f xs) (k : Keep rb w w') (hn : rb < n) : Fc w' (Nw n) f xs := h.mono (fun i hp hl => k.block i hl (by have hp : n ≤ i := hp; omega)) k.size (fun _ h _ => h)
/-- What a call that reads a tree answers and leaves. -/
def PostE (rb o q : Nat) (w : World) (res : Rs Ex) (e : Ending) (w' : World) : Prop :=
  match res with
  | ⟨none⟩ => False
  | ⟨some (.inl (er, a))⟩ => e = RefV er a ∧ Keep rb w w'
  | ⟨some (.inr (x, ts))⟩ => ∃ ao cap, e = .returned (exV x ao cap) ∧ Sl w' (Nw w.heap.size) x.kids ao ∧ RdS w' rb o q ts ∧ Keep rb w w'
/-- What a call that reads trees in a row answers and leaves. -/
def PostF (rb o q : Nat) (w : World) (res : Rs Fs) (e : Ending) (w' : World) : Prop :=
  match res with
  | ⟨none⟩ => False
  | ⟨some (.inl (er, a))⟩ => e = RefV er a ∧ Keep rb w w'
  | ⟨some (.inr (f, ts))⟩ => ∃ ao cap, e = .returned (.slice ao f.len cap) ∧ Sl w' (Nw w.heap.size) f ao ∧ RdS w' rb o q ts ∧ Keep rb w w'
end Go.Proofs.YtafnlhnenmpfoaaGreatDoor
namespace Go.Proofs.YtafnlhnenmpfoaaGreatDoor
open Go.ChangeShapes Go.WideShapes Go.ChangeAt Go.RowKit
set_option linter.unusedVariables false

theorem RdS.next {w : World} {rb o q : Nat} {x : Tk} {r : List Tk} (h : RdS w rb o q (x :: r)) : ∃ g cap len i, g < w.heap.size ∧ g < rb ∧ i < len ∧ len ≤ 3000 ∧ len ≤ cap ∧ cap ≤ maxLen ∧ w.cell? ⟨rb, 0, none⟩ = some (.slice (some ⟨g, 0, none⟩) len cap) ∧ w.cell? ⟨rb, 1, none⟩ = some (.int .i64 ((i : Nat) : Int)) ∧ w.cell? ⟨rb, 2, none⟩ = some (.int .i64 (o : Nat)) ∧ w.cell? ⟨rb, 3, none⟩ = some (.int .i64 (q : Nat)) ∧ w.cell? ⟨g, i * 4, none⟩ = some (.int .i64 (x.k : Nat)) ∧ w.cell? ⟨g, i * 4 + 1, none⟩ = some (.int .i64 x.n) ∧ w.cell? ⟨g, i * 4 + 2, none⟩ = some (stv x.t) ∧ w.cell? ⟨g, i * 4 + 3, none⟩ = some (.int .i64 (x.a : Nat)) ∧ (∀ j, w.frozen? ⟨rb, j, none⟩ = false) ∧ RdS (w.setCell ⟨rb, 1, none⟩ (.int .i64 ((i : Int) + 1))) rb o q r := by
  have hlt := h.lt
  obtain ⟨g, cap, all, i, h1, h2, h4, h5, h6, h7, h8, h9⟩ := h
  have hi : i < all.length := by
    by_cases hi : i < all.length
    · exact hi
    · rw [List.drop_eq_nil_of_le (by omega)] at h5; cases h5
  have hx : all[i]? = some x := by
    have := congrArg List.head? h5
    simpa [List.head?_drop] using this
  obtain ⟨t0, t1, t2, t3⟩ := tkcells_at all i x hx
  refine ⟨g, cap, all.length, i, (by omega), (by omega), hi, h7, h8, h9, ?_, ?_, ?_, ?_, h4 _ _ t0, h4 _ _ t1, h4 _ _ t2, h4 _ _ t3, fun j => frozen_of_row w rb j _ _ h1, ?_⟩
  · simp [cell_of_row w rb _ _ _ (0, 0) h1]
  · simp [cell_of_row w rb _ _ _ (0, 0) h1]
  · simp [cell_of_row w rb _ _ _ (0, 0) h1]
  · simp [cell_of_row w rb _ _ _ (0, 0) h1]
  · have hB := Blk.set (w := w) (o := fun _ => 0) (i := 0) (b := rb) ⟨h1, rfl⟩ 1 (.int .i64 (((i + 1 : Nat) : Nat) : Int))
    rw [show (((i + 1 : Nat) : Nat) : Int) = (i : Int) + 1 by omega] at hB
    refine ⟨g, cap, all, i + 1, by rw [show (((i + 1 : Nat) : Nat) : Int) = (i : Int) + 1 by omega]; exact hB.1, h2, fun j u hu => ?_, ?_, hi, h7, h8, h9⟩
    · exact (World.cell?_of_block (a := ⟨g, j, none⟩) (heap_setCell_other w ⟨rb, 1, none⟩ g _ (show g ≠ rb by omega))).trans (h4 j u hu)
    · have : all.drop (i + 1) = (all.drop i).drop 1 := by simp [List.drop_drop]
      rw [this, h5]
      rfl
set_option maxRecDepth 100000 in
theorem token_r {w : World} {rb o q : Nat} {x : Tk} {r : List Tk} (h : RdS w rb o q (x :: r)) :
    Calls Tryz.prog 43 #[.pointer (some ⟨rb, 0, none⟩)] w fun e w' => e = .returned (tkV x) ∧ Below w.heap.size w w' := by
  obtain ⟨g, cap, len, i, hg, hgr, hi, hl, hc, hm, c0, c1, c2, c3, t0, t1, t2, t3, hf, -⟩ := h.next
  obtain ⟨xk, xn, xt, xa⟩ := x
  simp only at t0 t1 t2 t3
  unfold tkV
  simp only
  unfold maxLen at hm
  have hrb := h.lt
  have HC : Hid (∀ wx, Below w.heap.size w wx → wx.cell? ⟨rb, 0, none⟩ = some (.slice (some ⟨g, 0, none⟩) len cap) ∧ wx.cell? ⟨rb, 1, none⟩ = some (.int .i64 ((i : Nat) : Int)) ∧ wx.cell? ⟨g, i * 4, none⟩ = some (.int .i64 (xk : Nat)) ∧ wx.cell? ⟨g, i * 4 + 1, none⟩ = some (.int .i64 xn) ∧ wx.cell? ⟨g, i * 4 + 2, none⟩ = some (stv xt) ∧ wx.cell? ⟨g, i * 4 + 3, none⟩ = some (.int .i64 (xa : Nat))) := fun wx b => ⟨(b.cell (p := ⟨rb, 0, none⟩) hrb).trans c0, (b.cell (p := ⟨rb, 1, none⟩) hrb).trans c1, (b.cell (p := ⟨g, i * 4, none⟩) hg).trans t0, (b.cell (p := ⟨g, i * 4 + 1, none⟩) hg).trans t1, (b.cell (p := ⟨g, i * 4 + 2, none⟩) hg).trans t2, (b.cell (p := ⟨g, i * 4 + 3, none⟩) hg).trans t3⟩
  have bz : Below w.heap.size w (w.alloc (.cells #[.int .i64 0, .int .i64 0, .string ⟨#[]⟩, .int .i64 0] 47)).drew := ((Below.refl _ w).alloc (Nat.le_refl _) _).drew
  have bt : Below w.heap.size w (w.alloc (.cells #[.int .i64 (xk : Nat), .int .i64 xn, stv xt, .int .i64 (xa : Nat)] 47)) := (Below.refl _ w).alloc (Nat.le_refl _) _
  clear h c0 c1 c2 c3 t0 t1 t2 t3 hf
  go_enter Tryz.func43, Tryz.ntmps43
  go_wp2_with fail
  go_region_held3 (fun wx => wx.cell? ⟨rb, 0, none⟩ = some (.slice (some ⟨g, 0, none⟩) len cap) ∧ wx.cell? ⟨rb, 1, none⟩ = some (.int .i64 ((i : Nat) : Int)) ∧ wx.cell? ⟨g, i * 4, none⟩ = some (.int .i64 (xk : Nat)) ∧ wx.cell? ⟨g, i * 4 + 1, none⟩ = some (.int .i64 xn) ∧ wx.cell? ⟨g, i * 4 + 2, none⟩ = some (stv xt) ∧ wx.cell? ⟨g, i * 4 + 3, none⟩ = some (.int .i64 (xa : Nat))) (first | (with_reducible exact HC.out _ bz) | (with_reducible exact HC.out _ bt) | (with_reducible exact HC.out _ bt.drew)) (fail)
  go_wp2
  exact bodyPost_ret (v := .agg #[.int .i64 (xk : Nat), .int .i64 xn, stv xt, .int .i64 (xa : Nat)]) (by simp [results, Tryz.results43, go_sem]) rfl ⟨rfl, bt.drew⟩
theorem tk_f0 (k n : Int) (t : ByteArray) (a : Int) (w : World) : (Instr.field 47 (.agg #[.int .i64 k, .int .i64 n, .string t, .int .i64 a]) 0).run Tryz.prog w = .ok (.int .i64 k) w := by kernel_rfl
theorem tk_f1 (k n : Int) (t : ByteArray) (a : Int) (w : World) : (Instr.field 47 (.agg #[.int .i64 k, .int .i64 n, .string t, .int .i64 a]) 1).run Tryz.prog w = .ok (.int .i64 n) w := by kernel_rfl
theorem tk_f2 (k n : Int) (t : ByteArray) (a : Int) (w : World) : (Instr.field 47 (.agg #[.int .i64 k, .int .i64 n, .string t, .int .i64 a]) 2).run Tryz.prog w = .ok (.string t) w := by kernel_rfl
theorem tk_f3 (k n : Int) (t : ByteArray) (a : Int) (w : World) : (Instr.field 47 (.agg #[.int .i64 k, .int .i64 n, .string t, .int .i64 a]) 3).run Tryz.prog w = .ok (.int .i64 a) w := by kernel_rfl
set_option maxRecDepth 100000 in
theorem refused_r {w : World} {rb o q : Nat} {x : Tk} {r : List Tk} (er : Nat) (h : RdS w rb o q (x :: r)) :
    Calls Tryz.prog 44 #[.pointer (some ⟨rb, 0, none⟩), .int .i64 (er : Nat)] w fun e w' => e = .returned (.agg #[.int .i64 (er : Nat), .int .i64 (x.a : Nat)]) ∧ Below w.heap.size w w' := by
  have h1 := h.below ((Below.refl _ w).alloc (Nat.le_refl _) (.cells #[.int .i64 0, .int .i64 0] 78))
  have c := token_r h1
  unfold tkV at c
  have B0 : Below w.heap.size w (w.alloc (.cells #[.int .i64 0, .int .i64 0] 78)) := (Below.refl _ w).alloc (Nat.le_refl _) _
  have hb : (w.alloc (.cells #[.int .i64 0, .int .i64 0] 78)).heap[w.heap.size]? = some (.cells #[.int .i64 0, .int .i64 0] 78 (0, 0)) := heap_alloc_new w _
  have hs : w.heap.size < (w.alloc (.cells #[.int .i64 0, .int .i64 0] 78)).heap.size := by simp
  clear h h1
  go_enter Tryz.func44, Tryz.ntmps44
  go_wp2_with fail
  refine c.mono ?_
  rintro e w2 ⟨rfl, b⟩
  have hb2 := (b.block _ hs).trans hb
  have c0 := cell_of_row w2 w.heap.size 0 _ _ (0, 0) hb2
  have c1 := cell_of_row w2 w.heap.size 1 _ _ (0, 0) hb2
  have fz := fun j => frozen_of_row w2 w.heap.size j _ _ hb2
  have BB : Below w.heap.size w w2 := B0.trans (b.mono (Nat.le_of_lt hs))
  have E := (BB.setCell (p := ⟨w.heap.size, 0, none⟩) (Nat.le_refl _) (.int .i64 (er : Nat))).setCell (p := ⟨w.heap.size, 1, none⟩) (Nat.le_refl _) (.int .i64 (x.a : Nat))
  have f3 := tk_f3
  simp only [List.getElem?_toArray, List.getElem?_cons_zero, List.getElem?_cons_succ] at c0 c1
  clear c b hb hs B0 BB hb2
  go_wp2
  exact bodyPost_ret (v := .agg #[.int .i64 (er : Nat), .int .i64 (x.a : Nat)]) (by simp [results, Tryz.results44, go_sem, c0, c1]) rfl ⟨rfl, E⟩
set_option maxRecDepth 100000 in
theorem has_r {w : World} {rb o q : Nat} {x : Tk} {r : List Tk} (s : List UInt8) (h : RdS w rb o q (x :: r)) :
    Calls Tryz.prog 138 #[.pointer (some ⟨rb, 0, none⟩), stv s] w fun e w' => e = .returned (.bool (x.t == s)) ∧ Below w.heap.size w w' := by
  have c := token_r h
  unfold tkV at c
  have f2 := tk_f2
  clear h
  go_enter Tryz.func138, Tryz.ntmps138
  go_wp2_with fail
  refine c.mono ?_
  rintro e w2 ⟨rfl, b⟩
  clear c
  go_wp2
  go_ret
  exact ⟨rfl, b⟩
/-- What a call that goes over a token answers and leaves. -/
def PostN (rb o q : Nat) (w : World) (res : Rs Nat) (e : Ending) (w' : World) : Prop :=
  match res with
  | ⟨none⟩ => False
  | ⟨some (.inl (er, a))⟩ => e = RefV er a ∧ Keep rb w w'
  | ⟨some (.inr (a, ts))⟩ => e = .returned (.int .i64 (a : Nat)) ∧ RdS w' rb o q ts ∧ Keep rb w w'
def PostK (rb o q : Nat) (w : World) (res : Rs Tk) (e : Ending) (w' : World) : Prop :=
  match res with
  | ⟨none⟩ => False
  | ⟨some (.inl (er, a))⟩ => e = RefV er a ∧ Keep rb w w'
  | ⟨some (.inr (x, ts))⟩ => e = .returned (tkV x) ∧ RdS w' rb o q ts ∧ Keep rb w w'
end Go.Proofs.YtafnlhnenmpfoaaGreatDoor
