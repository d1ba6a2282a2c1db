/- Package lex: Scan, walked. -/
import Derived.Test.YtfpmaeflmboalaaGreatDoorLexU
namespace Go.Proofs.YtfpmaeflmboalaaGreatDoor
open Go.ChangeShapes Go.WideShapes Go.ChangeAt Go.RowKit
set_option linter.unusedVariables false

theorem infoToken : (Tryz.prog.info? 44).map (fun i => (i.zero, i.size, i.bytes)) = some (some (.agg #[.int .i64 0, .int .i64 0, .string ⟨#[]⟩, .int .i64 0]), 4, 40) := by kernel_rfl
/-- The cells of tokens. -/
def tcells (ts : List Tk) : List Value := ts.flatMap fun x => [.int .i64 (x.k : Nat), .int .i64 x.n, .string ⟨x.t.toArray⟩, .int .i64 (x.a : Nat)]
theorem tcells_more (ts : List Tk) (x : Tk) : tcells (ts ++ [x]) = tcells ts ++ [.int .i64 (x.k : Nat), .int .i64 x.n, .string ⟨x.t.toArray⟩, .int .i64 (x.a : Nat)] := by
  simp [tcells]
theorem pcells_at : ∀ (ps : List Pc) (i : Nat) (h : i < ps.length), (pcells ps)[i * 3]? = some (.int .i64 ((ps[i]).k : Nat)) ∧ (pcells ps)[i * 3 + 1]? = some (.string ⟨(ps[i]).t.toArray⟩) ∧ (pcells ps)[i * 3 + 2]? = some (.int .i64 ((ps[i]).a : Nat))
  | [], i, h => by cases h
  | p :: r, 0, h => ⟨rfl, rfl, rfl⟩
  | p :: r, i + 1, h => by
    have e : pcells (p :: r) = .int .i64 (p.k : Nat) :: .string ⟨p.t.toArray⟩ :: .int .i64 (p.a : Nat) :: pcells r := rfl
    have e1 : (i + 1) * 3 = i * 3 + 1 + 1 + 1 := by omega
    have ih := pcells_at r i (by simpa using h)
    rw [e, e1]
    exact ih
theorem tcells_at : ∀ (ts : List Tk) (i : Nat) (h : i < ts.length), (tcells ts)[i * 4]? = some (.int .i64 ((ts[i]).k : Nat)) ∧ (tcells ts)[i * 4 + 1]? = some (.int .i64 (ts[i]).n) ∧ (tcells ts)[i * 4 + 2]? = some (.string ⟨(ts[i]).t.toArray⟩) ∧ (tcells ts)[i * 4 + 3]? = some (.int .i64 ((ts[i]).a : Nat))
  | [], i, h => by cases h
  | p :: r, 0, h => ⟨rfl, rfl, rfl, rfl⟩
  | p :: r, i + 1, h => by
    have e : tcells (p :: r) = .int .i64 (p.k : Nat) :: .int .i64 p.n :: .string ⟨p.t.toArray⟩ :: .int .i64 (p.a : Nat) :: tcells r := rfl
    have e1 : (i + 1) * 4 = i * 4 + 1 + 1 + 1 + 1 := by omega
    have ih := tcells_at r i (by simpa using h)
    rw [e, e1]
    exact ih
/-- Tokens, and X behind them. -/
def preR : List Tk → Res → Res
  | [], X => X
  | x :: r, X => consR x (preR r X)
theorem preR_more (ts : List Tk) (x : Tk) (X : Res) : preR (ts ++ [x]) X = preR ts (consR x X) := by
  induction ts with
  | nil => rfl
  | cons y r ih => simp only [List.cons_append, preR, ih]
theorem preR_inl (ts : List Tk) (e : Nat × Nat) : preR ts (.inl e) = .inl e := by
  induction ts with
  | nil => rfl
  | cons y r ih => simp only [preR, ih]; rfl
theorem preR_inr (ts us : List Tk) : preR ts (.inr us) = .inr (ts ++ us) := by
  induction ts with
  | nil => rfl
  | cons y r ih => simp only [preR, ih]; rfl
theorem ptok_err {k : Nat} {t : List UInt8} {a e : Nat} (h : ptok k t a = .inl e) : e = 110 ∨ e = 111 ∨ e = 112 := by
  unfold ptok at h
  split at h
  · unfold wrdT at h
    repeat' split at h
    all_goals first | (injection h with h; omega) | cases h
  · unfold numT at h
    repeat' split at h
    all_goals first | (injection h with h; omega) | cases h
  · unfold sgnT at h
    split at h
    all_goals first | (injection h with h; omega) | cases h
  · injection h with h
    omega
theorem run_step (ps : List Pc) (i : Nat) (h : i < ps.length) (X : Res) : runP (ps.drop i) X = shutP (ps[i]).k (ps[i]).t (ps[i]).a (runP (ps.drop (i + 1)) X) := by
  rw [List.drop_eq_getElem_cons h]
  rfl
abbrev I4 : Nat → Prop := fun k => k = 1 ∨ k = 2 ∨ k = 3 ∨ k = 4
/-- What Scan answers: tokens that are new memory, or an error and its place. -/
def ScanOut (w w' : World) (v : Value) (er at0 : Int) (R : Res) : Prop :=
  (∃ e p, R = .inl (e, p) ∧ v = .slice none 0 0 ∧ er = (e : Nat) ∧ at0 = (p : Nat)) ∨ (∃ ts, R = .inr ts ∧ er = 0 ∧ at0 = 0 ∧ w'.ownsRow w.heap.size 44 4 v ts.length (tcells ts))
theorem Row.fresh {I : Nat → Prop} {w w' : World} {o' : Nat → Nat} {i : Nat} {e : TypeId} {size : Nat} {v : Value} {n : Nat} {xs : List Value} (r : Row w' o' (i + 1) e size v n xs) (s : Step I w (fun _ => 0) w' o') : w'.ownsRow w.heap.size e size v n xs := by
  refine ⟨r.1.1, ?_⟩
  rcases r.1.2 with h | ⟨g, cap, cur, rfl, hb, rest⟩
  · exact .inl h
  · refine .inr ⟨g, cap, cur, rfl, ?_, rest⟩
    by_cases hg : g < w.heap.size
    · have h1 := s.lab g hg
      have h2 := r.2 g rfl
      omega
    · omega
end Go.Proofs.YtfpmaeflmboalaaGreatDoor
namespace Go.Proofs.YtfpmaeflmboalaaGreatDoor
open Go.ChangeShapes Go.WideShapes Go.ChangeAt Go.RowKit
set_option linter.unusedVariables false

structure Sc (l : List UInt8) (n g : Nat) (ps : List Pc) (w wr : World) (o : Nat → Nat) (cap : Nat) (v : Value) (i : Nat) (ts : List Tk) : Prop where
  row : Row wr o 4 44 4 v ts.length (tcells ts)
  pcs : Row wr o 1 68 3 (.slice (some ⟨g, 0, none⟩) ps.length cap) ps.length (pcells ps)
  ile : i ≤ ps.length
  len : ts.length ≤ i
  run : preR ts (runP (ps.drop i) (endR n)) = lexA l
  stp : Step I4 w (fun _ => 0) wr o
theorem I4_below {w wr : World} {o : Nat → Nat} (h : Step I4 w (fun _ => 0) wr o) : Below w.heap.size w wr := h.below (fun _ _ h => by rcases h with h | h | h | h <;> cases h)
theorem bdr {B : Nat} {w w' : World} (h : Below B w w') (n : Nat) : Below B w (w'.drewN n) := ⟨h.os, h.tape, h.output, h.size, h.block⟩
set_option maxRecDepth 100000 in
set_option maxHeartbeats 2000000 in
theorem scan_c (s : ByteArray) (w : World) (hW : Wd w) (hE : Ers w) (hs : s.size ≤ maxLen) :
    Calls Tryz.prog 19 #[.string s] w fun e w' => ∃ v er at0, e = .returned (.tuple #[v, .int .i64 er, .int .i64 at0]) ∧ ScanOut w w' v er at0 (scanA s.data.toList) ∧ Below w.heap.size w w' := by
  unfold maxLen at hs
  have HL : Hid (s.data.toList.length = s.size) := data_len s
  by_cases hbig : 2000 < s.size
  · have fin : scanA s.data.toList = .inl (113, 0) := by
      unfold scanA
      rw [HL.out, if_pos hbig]
    have hI : (2000 : Int) < (s.size : Int) := by omega
    go_enter Tryz.func19, Tryz.ntmps19
    go_wp2
    go_ret3
    exact ⟨_, _, _, rfl, .inl ⟨113, 0, fin, rfl, rfl, rfl⟩, b0 _⟩
  · have HF : Hid (scanA s.data.toList = lexA s.data.toList) := by
      show _ = _
      unfold scanA
      rw [HL.out, if_neg hbig]
    have hI : ¬ (2000 : Int) < (s.size : Int) := by omega
    obtain ⟨ii, hii, hz0, hz1, hz2⟩ := info_parts infoToken
    go_enter Tryz.func19, Tryz.ntmps19
    go_wp2_with (go_at_call 31; refine (cut_c s _ (by omega)).mono ?_; rintro e w1 ⟨v1, ps, o1, rfl, R1, hrun, hok, hl1, hl0, S1⟩; refine Hid.out ?_)
    refine Lib.hid ?_
    obtain ⟨g, cap, rfl, _, hc1, hc2, _, _, _⟩ := R1.pos hl0
    have J0 : Sc s.data.toList s.size g ps w w1 o1 cap (.slice none 0 0) 0 [] := ⟨Row.nil _ _ _ _ _, R1, by omega, by simp, hrun, S1.mono (fun i h => by rcases h with h | h | h; exact .inl h; exact .inr (.inl h); exact .inr (.inr (.inl h)))⟩
    unfold maxLen at hc2
    have HO : Hid (∀ p, p ∈ ps → PcOk p) := hok
    clear R1 hrun hok S1
    go_wp2_with fail
    go_loopw [5, 16] (fun v5 v16 wr => ∃ i ts o, v16 = .int .i64 (i : Nat) ∧ Sc s.data.toList s.size g ps w wr o cap v5 i ts) (fun _ v16 _ => ps.length - (intOf v16).toNat)
    case atStart => exact ⟨0, [], o1, by go_num, J0⟩
    case round =>
      clear J0
      obtain ⟨i, ts, o, rfl, J⟩ := hrel
      have hB := I4_below J.stp
      have hile := J.ile
      have hlen := J.len
      by_cases hi : i < ps.length
      · have hiI : (i : Int) < (ps.length : Int) := by omega
        obtain ⟨g', cap', hg', hlg, _, _, hglt, hcell, hfr⟩ := J.pcs.pos hl0
        injection hg' with hg1 hg2 hg3
        injection hg1 with hg1
        injection hg1 with hg1
        subst hg1 hg3
        obtain ⟨p0, p1, p2⟩ := pcells_at ps i hi
        have c0 : wr.cell? ⟨g, i * 3, none⟩ = some (.int .i64 ((ps[i]).k : Nat)) := (hcell _ (by omega)).trans p0
        have c1 : wr.cell? ⟨g, i * 3 + 1, none⟩ = some (.string ⟨(ps[i]).t.toArray⟩) := (hcell _ (by omega)).trans p1
        have c2 : wr.cell? ⟨g, i * 3 + 2, none⟩ = some (.int .i64 ((ps[i]).a : Nat)) := (hcell _ (by omega)).trans p2
        have hpo := HO.out _ (List.getElem_mem hi)
        have hst := run_step ps i hi (endR s.size)
        have hrn := J.run
        rw [hst] at hrn
        generalize ps[i] = p at c0 c1 c2 hpo hrn
        obtain ⟨k, t, a⟩ := p
        obtain ⟨hk4, ht2, ha2⟩ := hpo
        simp only at c0 c1 c2 hk4 ht2 ha2 hrn
        have HR := Lib.hid hrn
        have HJ := Lib.hid J
        clear hcell hfr p0 p1 p2 hst hrn J hglt hlg hg2
        by_cases hk0 : k = 0
        · subst hk0
          have JN : ∀ o2 : Obj, Sc s.data.toList s.size g ps w (wr.alloc o2) o cap u5 (i + 1) ts := fun o2 => by
            have J := HJ.out
            exact ⟨J.row.step (allocStep (fun _ => False) wr o o2) (by simp), J.pcs.step (allocStep (fun _ => False) wr o o2) (by simp), by omega, by omega, HR.out, J.stp.trans (allocStep _ wr o o2)⟩
          have HN := Lib.hid JN
          clear JN
          go_wp2
          go_roundw
          case rel => (try ((repeat apply Exists.intro); refine ⟨?_, rfl⟩)); exact ⟨i + 1, ts, o, by go_num, HN.out _⟩
          case measure => simp [intOf]; omega
        · have hk0I : ¬ (k : Int) = 0 := by omega
          have hW2 : ∀ o2 : Obj, Wd (wr.alloc o2) := fun o2 => (hW.below hB).below (b1 _ _)
          have hE2 : ∀ o2 : Obj, Ers (wr.alloc o2) := fun o2 => (hE.below hB).below (b1 _ _)
          have hts : (⟨t.toArray⟩ : ByteArray).size ≤ 2000 := by show t.toArray.size ≤ 2000; simpa using ht2
          go_wp2_with (go_at_call 32; refine (token_c k ⟨t.toArray⟩ a _ (hW2 _) (hE2 _) hk4 (by omega) hts).mono ?_; rintro e w2 ⟨rfl, hb2⟩; refine Hid.out ?_)
          refine Lib.hid ?_
          have hbx : w2.heap[wr.heap.size]? = some (.cells #[.int .i64 (k : Nat), .string ⟨t.toArray⟩, .int .i64 (a : Nat)] 68 (0, 0)) := by
            rw [hb2.block _ (by simp)]
            exact heap_alloc_new _ _
          have hbw : Below wr.heap.size wr w2 := (b1 _ _).trans (hb2.mono (by simp))
          have d2 : w2.cell? ⟨wr.heap.size, 2, none⟩ = some (.int .i64 (a : Nat)) := by rw [cell_of_row _ _ _ _ _ _ hbx]; rfl
          obtain ⟨X, hX⟩ : ∃ X, X = ptok k t a := ⟨_, rfl⟩
          rw [← hX]
          have HX := Lib.hid hX
          have HBX := Lib.hid hbx
          clear hX c0 c1 c2 hbx hb2 hW2 hE2
          have hlt2 : wr.heap.size < w2.heap.size := by
            have := lt_of_block HBX.out
            exact this
          cases X with
          | inl er =>
            have her := ptok_err HX.out.symm
            have her0 : ¬ (er : Int) = 0 := by omega
            have herb : ((er : Int) != 0) = true := by simpa using her0
            have fin : lexA s.data.toList = .inl (er, a) := by
              rw [← HR.out]
              unfold shutP
              rw [if_neg hk0, ← HX.out, preR_inl]
            have HN := Lib.hid fin
            clear fin her
            simp only [outT]
            go_wp2
            go_quiet (fail)
            go_wp2
            go_ret3
            exact ⟨_, _, _, rfl, .inl ⟨er, a, HF.out.trans HN.out, rfl, rfl, rfl⟩, bdr ((hB.trans (hbw.mono hB.size)).trans ((b1 _ _).mono (by have := hB.size; omega))) _⟩
          | inr x =>
            obtain ⟨xk, xn, xt, xa⟩ := x
            have J := HJ.out
            have s2 : Step (fun _ => False) wr o w2 o := Step.ofBelow o hbw
            have R3' := (J.row.step s2 (by simp)).step ((allocStep (fun _ => False) w2 o (.cells #[.int .i64 (xk : Nat), .int .i64 xn, .string ⟨xt.toArray⟩, .int .i64 (xa : Nat)] 44)).alloc (.cells #[.int .i64 (xk : Nat), .int .i64 xn, .string ⟨xt.toArray⟩, .int .i64 (xa : Nat)] 44)) (by simp)
            have hps : ts.length ≤ 2001 := by omega
            clear J s2
            simp only [outT, tka]
            go_wp2_with (first | (at_builtin; refine wpList_append_lab rfl (.tmp 33) (.tmp 35) 36 rfl 44 ii (.agg #[.int .i64 0, .int .i64 0, .string ⟨#[]⟩, .int .i64 0]) 4 40 Tryz.underlying36 hii hz0 hz1 hz2 rfl (by decide) o 4 _ ts.length (tcells ts) rfl R3' ⟨w2.heap.size + 1, 0, none⟩ 1 1 [.int .i64 (xk : Nat), .int .i64 xn, .string ⟨xt.toArray⟩, .int .i64 (xa : Nat)] rfl rfl ?c1 ?c2 (by decide) ?c3 ?c4 ?_) | go_in)
            case c1 => exact new_four_at (by simp) _ _ _ _ _
            case c2 => intro u hu; simp at hu; rcases hu with rfl | rfl | rfl | rfl <;> rfl
            case c3 => unfold maxLen; omega
            case c4 => omega
            intro g5 cap5 w5 o5 R5 s5'
            have J := HJ.out
            have s5 : Step (fun k => k = 4) wr o w5 o5 := (((Step.ofBelow (I := fun k => k = 4) o hbw).alloc _).alloc _).trans s5'
            have RN : preR (ts ++ [⟨xk, xn, xt, xa⟩]) (runP (ps.drop (i + 1)) (endR s.size)) = lexA s.data.toList := by
              rw [preR_more, ← HR.out]
              unfold shutP
              rw [if_neg hk0, ← HX.out]
            have RR : Row w5 o5 4 44 4 (.slice (some ⟨g5, 0, none⟩) (ts.length + 1) cap5) (ts ++ [Tk.mk xk xn xt xa]).length (tcells (ts ++ [Tk.mk xk xn xt xa])) := by
              rw [tcells_more, List.length_append]
              exact R5
            have JN : Sc s.data.toList s.size g ps w w5 o5 cap (.slice (some ⟨g5, 0, none⟩) (ts.length + 1) cap5) (i + 1) (ts ++ [Tk.mk xk xn xt xa]) := ⟨RR, J.pcs.step s5 (by decide), by omega, by simp; omega, RN, J.stp.trans (s5.mono (fun i h => .inr (.inr (.inr h))))⟩
            have HN := Lib.hid JN
            clear R3' R5 s5' RR J s5 RN JN
            go_wp2
            go_roundw
            case rel => (try ((repeat apply Exists.intro); refine ⟨?_, rfl⟩)); exact ⟨i + 1, _, o5, by go_num, HN.out⟩
            case measure => simp [intOf]; omega
      · obtain rfl : i = ps.length := by omega
        have hps : ts.length ≤ 2001 := by omega
        have HJ := Lib.hid J
        have R3' := J.row.step (allocStep (fun _ => False) wr o (.cells #[.int .i64 0, .int .i64 0, .string ⟨#[]⟩, .int .i64 (s.size : Nat)] 44)) (by simp)
        clear J
        go_wp2_with (first | (at_builtin; refine wpList_append_lab rfl (.tmp 38) (.tmp 42) 36 rfl 44 ii (.agg #[.int .i64 0, .int .i64 0, .string ⟨#[]⟩, .int .i64 0]) 4 40 Tryz.underlying36 hii hz0 hz1 hz2 rfl (by decide) o 4 _ ts.length (tcells ts) rfl R3' ⟨wr.heap.size, 0, none⟩ 1 1 [.int .i64 0, .int .i64 0, .string ⟨#[]⟩, .int .i64 (s.size : Nat)] rfl rfl ?c1 ?c2 (by decide) ?c3 ?c4 ?_) | go_in)
        case c1 => exact new_four_at (by simp) _ _ _ _ _
        case c2 => intro u hu; simp at hu; rcases hu with rfl | rfl | rfl | rfl <;> rfl
        case c3 => unfold maxLen; omega
        case c4 => omega
        intro g5 cap5 w5 o5 R5 s5'
        have J := HJ.out
        have s5 : Step (fun k => k = 4) wr o w5 o5 := (allocStep _ wr o _).trans s5'
        have S5 := J.stp.trans (s5.mono (fun i h => .inr (.inr (.inr h))))
        have RN : lexA s.data.toList = .inr (ts ++ [⟨0, 0, [], s.size⟩]) := by
          have := J.run
          rw [List.drop_length] at this
          rw [← this]
          exact preR_inr _ _
        have RR : Row w5 o5 4 44 4 (.slice (some ⟨g5, 0, none⟩) (ts.length + 1) cap5) (ts ++ [Tk.mk 0 0 [] s.size]).length (tcells (ts ++ [Tk.mk 0 0 [] s.size])) := by
          rw [tcells_more, List.length_append]
          exact R5
        have OR := RR.fresh S5
        have hbe := I4_below S5
        have HN := Lib.hid RN
        clear R3' R5 s5' RR J s5 RN S5
        go_wp2
        go_ret3
        exact ⟨_, _, _, rfl, .inr ⟨_, HF.out.trans HN.out, rfl, rfl, OR⟩, hbe⟩
end Go.Proofs.YtfpmaeflmboalaaGreatDoor
