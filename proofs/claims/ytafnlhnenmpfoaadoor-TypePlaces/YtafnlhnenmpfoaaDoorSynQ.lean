/- All tokens are read. -/
import Derived.Test.YtafnlhnenmpfoaaDoorLexI
import Derived.Defers
import Derived.Recover
import Derived.Laws.Pointers
namespace Go.Proofs.YtafnlhnenmpfoaaDoor
open Go.ChangeShapes Go.WideShapes Go.ChangeAt Go.RowKit
set_option linter.unusedVariables false

abbrev I44 : Nat → Prop := fun k => k = 4
theorem I44_below {w wr : World} {o : Nat → Nat} (h : Step I44 w (fun _ => 0) wr o) : Below w.heap.size w wr := h.below (fun _ _ h => by cases h)
structure RsQ (l : List UInt8) (w wr : World) (o : Nat → Nat) (v : Value) (q : Nat) (ts : List Tk) : Prop where
  row : Row wr o 4 54 4 v ts.length (tcells ts)
  len : ts.length ≤ q
  run : preR ts (lexL 0 [] q q (l.drop q)) = lexA l
  stp : Step I44 w (fun _ => 0) wr o
set_option maxRecDepth 100000 in
set_option maxHeartbeats 2000000 in
theorem rscan_c (s : ByteArray) (w : World) (hs : s.size ≤ maxLen) :
    Calls Tryd.prog 23 #[.string s] w fun e w' => ∃ v er at0, e = .returned (.tuple #[v, .int .i64 er, .int .i64 at0]) ∧ ScanOut w w' v er at0 (scanA s.data.toList) ∧ Below w.heap.size w w' := by
  unfold maxLen at hs
  have HL : Hid (s.data.toList.length = s.size) := data_len s
  by_cases hbig : 2000 < s.size
  · have fin : scanA s.data.toList = .inl (113, 0) := by
      unfold scanA
      rw [HL.out, if_pos hbig]
    have hI : (2000 : Int) < (s.size : Int) := by omega
    go_enter Tryd.func23, Tryd.ntmps23
    go_wp2
    go_ret3
    exact ⟨_, _, _, rfl, Or.inl ⟨113, 0, fin, rfl, rfl, rfl⟩, b0 _⟩
  · have HF : Hid (scanA s.data.toList = lexA s.data.toList) := by
      show _ = _
      unfold scanA
      rw [HL.out, if_neg hbig]
    have hs2 : s.size ≤ 2000 := by omega
    have hI : ¬ (2000 : Int) < (s.size : Int) := by omega
    obtain ⟨ii, hii, hz0, hz1, hz2⟩ := info_parts infoToken
    go_enter Tryd.func23, Tryd.ntmps23
    go_wp2_with fail
    go_loopw [5, 6] (fun v5 v6 wr => ∃ q ts o, v6 = .int .i64 (q : Nat) ∧ q ≤ s.size ∧ RsQ s.data.toList w wr o v5 q ts) (fun _ v6 _ => s.size - (intOf v6).toNat)
    case atStart => exact ⟨0, [], fun _ => 0, by go_num, by omega, Row.nil _ _ _ _ _, by simp, rfl, Step.refl _ _ _⟩
    case round =>
      obtain ⟨q, ts, o, rfl, hq, J⟩ := hrel
      have hB := I44_below J.stp
      have hlen := J.len
      by_cases hlt : q < s.size
      · have hqI : (q : Int) < (s.size : Int) := by omega
        have hql : q < s.data.toList.length := by rw [HL.out]; exact hlt
        have hbq : (s[q]'hlt).toNat < 256 := UInt8.toNat_lt _
        have hda := drop_at s.data.toList q hql
        rw [data_get s q hlt hql] at hda
        cases hb : blk (s[q]'hlt).toNat
        · have HJ := Lib.hid J
          clear J hda
          go_wp2_with (first | (go_at_call 44; refine (blk_r _ _ hbq).mono ?_; rw [hb]; rintro e w1 ⟨rfl, rfl⟩) | (go_at_call 45; refine (token_q s q _ hlt hs2 hb).mono ?_; rintro e w2 ⟨⟨er, rfl, h1, h2⟩ | ⟨x, nx, rfl, h1, h2, h3⟩, hb2⟩ <;> refine Hid.out ?_))
          · refine Lib.hid ?_
            have her0 : ¬ (er : Int) = 0 := by omega
            have herb : ((er : Int) != 0) = true := by simpa using her0
            have fin : lexA s.data.toList = .inl (er, q) := by
              rw [← HJ.out.run, h1, preR_inl]
            have HN := Lib.hid fin
            clear fin h1
            have hbw := hB.trans (hb2.mono hB.size)
            go_wp2
            go_ret3
            exact ⟨_, _, _, rfl, Or.inl ⟨er, q, HF.out.trans HN.out, rfl, rfl, rfl⟩, hbw.trans ((b1 _ _).mono hbw.size)⟩
          · refine Lib.hid ?_
            obtain ⟨xk, xn, xt, xa⟩ := x
            rw [HL.out] at h2
            have J := HJ.out
            have s2 : Step (fun _ => False) w1 o w2 o := Step.ofBelow o hb2
            have R3' := (J.row.step s2 (by simp)).step ((allocStep (fun _ => False) w2 o (.cells #[.int .i64 (xk : Nat), .int .i64 xn, .string ⟨xt.toArray⟩, .int .i64 (xa : Nat)] 54)).alloc (.cells #[.int .i64 (xk : Nat), .int .i64 xn, .string ⟨xt.toArray⟩, .int .i64 (xa : Nat)] 54)) (by simp)
            have hps : ts.length ≤ 2001 := by omega
            have HR : Hid (preR (ts ++ [⟨xk, xn, xt, xa⟩]) (lexL 0 [] nx nx (s.data.toList.drop nx)) = lexA s.data.toList) := by
              show _ = _
              rw [preR_more, ← J.run, h3]
            clear J s2 h3
            simp only [tka]
            go_wp2_with (first | (at_builtin; refine wpList_append_lab rfl (.tmp 34) (.tmp 36) 43 rfl 54 ii (.agg #[.int .i64 0, .int .i64 0, .string ⟨#[]⟩, .int .i64 0]) 4 40 Tryd.underlying43 hii hz0 hz1 hz2 rfl (by decide) o 4 _ ts.length (tcells ts) rfl R3' ⟨w2.heap.size + 1, 0, none⟩ 1 1 [.int .i64 (xk : Nat), .int .i64 xn, .string ⟨xt.toArray⟩, .int .i64 (xa : Nat)] rfl rfl ?c1 ?c2 (by decide) ?c3 ?c4 ?_) | go_in)
            case c1 => exact new_four_at (by simp) _ _ _ _ _
            case c2 => intro u hu; simp at hu; rcases hu with rfl | rfl | rfl | rfl <;> rfl
            case c3 => unfold maxLen; omega
            case c4 => omega
            intro g5 cap5 w5 o5 R5 s5'
            have J := HJ.out
            have s5 : Step (fun k => k = 4) w1 o w5 o5 := (((Step.ofBelow (I := fun k => k = 4) o hb2).alloc _).alloc _).trans s5'
            have RR : Row w5 o5 4 54 4 (.slice (some ⟨g5, 0, none⟩) (ts.length + 1) cap5) (ts ++ [Tk.mk xk xn xt xa]).length (tcells (ts ++ [Tk.mk xk xn xt xa])) := by
              rw [tcells_more, List.length_append]
              exact R5
            have JN : RsQ s.data.toList w w5 o5 (.slice (some ⟨g5, 0, none⟩) (ts.length + 1) cap5) nx (ts ++ [Tk.mk xk xn xt xa]) := ⟨RR, by simp; omega, HR.out, J.stp.trans s5⟩
            have HN := Lib.hid JN
            clear R3' R5 s5' RR J s5 JN
            go_wp2
            go_roundw
            case rel => (try ((repeat apply Exists.intro); refine ⟨?_, rfl⟩)); exact ⟨nx, _, o5, by go_num, by omega, HN.out⟩
            case measure => simp [intOf]; omega
        · have JN : RsQ s.data.toList w wr o u5 (q + 1) ts := by
            refine ⟨J.row, by omega, ?_, J.stp⟩
            have h1 := J.run
            rw [hda, lexL_yes (k := 0) (by exact hb), lexL_blank _ [] _ (q + 1)] at h1
            exact h1
          have HN := Lib.hid JN
          clear J JN hda
          go_wp2_with (go_at_call 44; refine (blk_r _ _ hbq).mono ?_; rw [hb]; rintro e w1 ⟨rfl, rfl⟩)
          go_roundw
          case rel => (try ((repeat apply Exists.intro); refine ⟨?_, rfl⟩)); exact ⟨q + 1, ts, o, by go_num, by omega, HN.out⟩
          case measure => simp [intOf]; omega
      · obtain rfl : q = s.size := by omega
        have hps : ts.length ≤ 2001 := by omega
        have HJ := Lib.hid J
        have R3' := J.row.step (allocStep (fun _ => False) wr o (.cells #[.int .i64 0, .int .i64 0, .string ⟨#[]⟩, .int .i64 (s.size : Nat)] 54)) (by simp)
        clear J
        go_wp2_with (first | (at_builtin; refine wpList_append_lab rfl (.tmp 39) (.tmp 43) 43 rfl 54 ii (.agg #[.int .i64 0, .int .i64 0, .string ⟨#[]⟩, .int .i64 0]) 4 40 Tryd.underlying43 hii hz0 hz1 hz2 rfl (by decide) o 4 _ ts.length (tcells ts) rfl R3' ⟨wr.heap.size, 0, none⟩ 1 1 [.int .i64 0, .int .i64 0, .string ⟨#[]⟩, .int .i64 (s.size : Nat)] rfl rfl ?d1 ?d2 (by decide) ?d3 ?d4 ?_) | go_in)
        case d1 => exact new_four_at (by simp) _ _ _ _ _
        case d2 => intro u hu; simp at hu; rcases hu with rfl | rfl | rfl | rfl <;> rfl
        case d3 => unfold maxLen; omega
        case d4 => omega
        intro g5 cap5 w5 o5 R5 s5'
        have J := HJ.out
        have s5 : Step (fun k => k = 4) wr o w5 o5 := (allocStep _ wr o _).trans s5'
        have S5 := J.stp.trans s5
        have RN : lexA s.data.toList = .inr (ts ++ [⟨0, 0, [], s.size⟩]) := by
          have := J.run
          rw [List.drop_of_length_le (by rw [HL.out]; exact Nat.le_refl _)] at this
          rw [← this]
          exact preR_inr _ _
        have RR : Row w5 o5 4 54 4 (.slice (some ⟨g5, 0, none⟩) (ts.length + 1) cap5) (ts ++ [Tk.mk 0 0 [] s.size]).length (tcells (ts ++ [Tk.mk 0 0 [] s.size])) := by
          rw [tcells_more, List.length_append]
          exact R5
        have OR := RR.fresh S5
        have hbe := I44_below S5
        have HN := Lib.hid RN
        clear R3' R5 s5' RR J s5 RN S5
        go_wp2
        go_ret3
        exact ⟨_, _, _, rfl, Or.inr ⟨_, HF.out.trans HN.out, rfl, rfl, OR⟩, hbe⟩
end Go.Proofs.YtafnlhnenmpfoaaDoor
namespace Go.Proofs.YtafnlhnenmpfoaaDoor
open Go.ChangeShapes Go.WideShapes Go.ChangeAt Go.RowKit
set_option linter.unusedVariables false
set_option linter.unusedSimpArgs false

/-- The three results' boxes. -/
structure Bx3 (w : World) (B : Nat) (v0 v1 v2 v3 v4 e a : Value) : Prop where
  t : w.heap[B]? = some (.cells #[v0, v1, v2, v3, v4] 24 (0, 0))
  e : w.heap[B + 1]? = some (.cells #[e] 28 (0, 0))
  a : w.heap[B + 2]? = some (.cells #[a] 3 (0, 0))
section
variable {w w1 : World} {B bq er a : Nat} {v0 v1 v2 v3 v4 ve va : Value}
end
end Go.Proofs.YtafnlhnenmpfoaaDoor
namespace Go.Proofs.YtafnlhnenmpfoaaDoor
open Go.ChangeShapes Go.WideShapes Go.ChangeAt Go.RowKit
set_option linter.unusedVariables false
set_option linter.unusedSimpArgs false

/-- The three tables lie in memory. -/
structure Tb3 (w : World) : Prop where
  op : OpW w
  cl : ClW w
  qn : QnW w
theorem Tb3.below {w w' : World} (h : Tb3 w) (b : Below w.heap.size w w') : Tb3 w' := ⟨h.op.below b, h.cl.below b, h.qn.below b⟩
/-- What the reading of all tokens answers and leaves. -/
def PostR (w : World) (res : Rs Ex) (e : Ending) (w' : World) : Prop :=
  match res with
  | ⟨none⟩ => False
  | ⟨some (.inl (er, a))⟩ => e = .returned (.tuple #[exV noEx none 0, .int .i64 (er : Nat), .int .i64 (a : Nat)]) ∧ Below w.heap.size w w'
  | ⟨some (.inr (x, _))⟩ => ∃ ao cap, e = .returned (.tuple #[exV x ao cap, .int .i64 0, .int .i64 0]) ∧ Sl w' (Nw w.heap.size) x.kids ao ∧ Below w.heap.size w w'
theorem Bx3.keep {w w' : World} {B rb : Nat} {v0 v1 v2 v3 v4 e a : Value} (h : Bx3 w B v0 v1 v2 v3 v4 e a) (k : Keep rb w w') (hr : B + 2 < rb) : Bx3 w' B v0 v1 v2 v3 v4 e a := ⟨k.blk h.t (by omega), k.blk h.e (by omega), k.blk h.a (by omega)⟩
end Go.Proofs.YtafnlhnenmpfoaaDoor
