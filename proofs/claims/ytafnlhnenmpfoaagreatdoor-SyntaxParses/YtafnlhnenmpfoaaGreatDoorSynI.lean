/- The reader: the members of a set. -/
import Derived.Test.YtafnlhnenmpfoaaGreatDoorSynF
namespace Go.Proofs.YtafnlhnenmpfoaaGreatDoor
open Go.ChangeShapes Go.WideShapes Go.ChangeAt Go.RowKit
set_option linter.unusedVariables false

/-- A slice of trees that grows: in a block of its own; all below it lies elsewhere. -/
def AccG (w : World) (n0 : Nat) (acc : Fs) (g cap : Nat) (xs : List Value) : Prop :=
  n0 ≤ g ∧ w.ownsRow 0 25 5 (.slice (some ⟨g, 0, none⟩) acc.len cap) acc.len xs ∧ Fc w (fun b => n0 ≤ b ∧ b ≠ g) acc xs
def Acc (w : World) (n0 : Nat) (acc : Fs) (v : Value) : Prop := ∃ g cap xs, v = .slice (some ⟨g, 0, none⟩) acc.len cap ∧ AccG w n0 acc g cap xs
def lab1 (g : Nat) : Nat → Nat := fun b => if b = g then 1 else 0
theorem AccG.row {w : World} {n0 : Nat} {acc : Fs} {g cap : Nat} {xs : List Value} (h : AccG w n0 acc g cap xs) : Row w (lab1 g) 1 25 5 (.slice (some ⟨g, 0, none⟩) acc.len cap) acc.len xs :=
  ⟨h.2.1, fun k hk => by simp [Value.ownBlock] at hk; subst hk; simp [lab1]⟩
theorem Acc.one {w : World} {n0 : Nat} {e : Ex} {ao : Option Addr} (cap : Nat) (h : Sl w (Nw n0) e.kids ao) (hn : n0 ≤ w.heap.size) :
    Acc (w.alloc (.cells #[.int .i64 e.k, .int .i64 e.n, stv e.nm, .slice ao e.kids.len cap, .int .i64 e.a] 25)) n0 (one e) (.slice (some ⟨w.heap.size, 0, none⟩) 1 1) := by
  refine ⟨w.heap.size, 1, _, rfl, hn, World.ownsRow_lit w _ 1 (Nat.zero_le _) (by unfold maxLen; omega) (by simp), ?_⟩
  exact (Fc.one cap h).mono (fun i hp hl => Below.heap_alloc w _ i hl) (by simp) (fun i hp hl => ⟨hp, Nat.ne_of_lt hl⟩)
theorem Acc.keep {rb n0 : Nat} {w w' : World} {acc : Fs} {v : Value} (h : Acc w n0 acc v) (k : Keep rb w w') (hn : rb < n0) : Acc w' n0 acc v := by
  obtain ⟨g, cap, xs, rfl, hg, ho, hf⟩ := h
  have r : Row w (fun b => if b = rb then 7 else 1) 1 25 5 (.slice (some ⟨g, 0, none⟩) acc.len cap) acc.len xs := ⟨ho, fun j hj => by simp [Value.ownBlock] at hj; subst hj; show (if g = rb then 7 else 1) = 1; rw [if_neg (by omega)]⟩
  have s : Step (fun x => x = 7) w (fun b => if b = rb then 7 else 1) w' (fun b => if b = rb then 7 else 1) := ⟨k.os, k.tape, k.output, k.size, fun _ _ => rfl, fun j hj hn => k.block j hj (fun e => hn (by simp [e]))⟩
  exact ⟨g, cap, xs, rfl, hg, (r.step s (by decide)).1, hf.mono (fun i hp hl => k.block i hl (by have := hp.1; omega)) k.size (fun _ h _ => h)⟩
theorem Acc.sl {w : World} {n0 : Nat} {acc : Fs} {v : Value} (h : Acc w n0 acc v) : ∃ ao cap, v = .slice ao acc.len cap ∧ Sl w (Nw n0) acc ao := by
  obtain ⟨g, cap, xs, rfl, h⟩ := h
  refine ⟨_, cap, rfl, ?_⟩
  by_cases h0 : 0 < acc.len
  · obtain ⟨g', cap', hv, _, _, _, hlt, hc, _⟩ := h.row.pos h0
    simp only [Value.slice.injEq, Option.some.injEq, Addr.mk.injEq, true_and, and_true] at hv
    obtain ⟨rfl, rfl⟩ := hv
    have hl := h.row.len
    refine Sl.of h.1 hlt (fun j u hu => ?_) (h.2.2.mono (fun _ _ _ => rfl) (Nat.le_refl _) (fun _ hp _ => hp.1))
    rw [Nat.zero_add, hc j ?_]
    · exact hu
    · rw [← hl]
      by_cases hj : j < xs.length
      · exact hj
      · rw [List.getElem?_eq_none (by omega)] at hu
        cases hu
  · refine .inl ?_
    cases acc using Fs.on with
    | nil => rfl
    | cons k n nm a ks r => simp [Fs.len] at h0
theorem Keep.step1 {rb g : Nat} {a w w2 : World} {o2 : Nat → Nat} (K : Keep rb a w) (s : Step (fun x => x = 1) w (lab1 g) w2 o2) (hg : a.heap.size ≤ g) : Keep rb a w2 :=
  ⟨s.os.trans K.os, s.tape.trans K.tape, s.output.trans K.output, Nat.le_trans K.size s.size, fun k hk hn => (s.block k (Nat.lt_of_lt_of_le hk K.size) (by unfold lab1; rw [if_neg (by omega)]; decide)).trans (K.block k hk hn)⟩
theorem RdS.step1 {rb g o q : Nat} {ts : List Tk} {w w2 : World} {o2 : Nat → Nat} (h : RdS w rb o q ts) (s : Step (fun x => x = 1) w (lab1 g) w2 o2) (hg : rb < g) : RdS w2 rb o q ts := by
  have hlt := h.lt
  obtain ⟨g', cap, all, i, h1, h2, h4, h5⟩ := h
  exact ⟨g', cap, all, i, (s.block rb hlt (by unfold lab1; rw [if_neg (by omega)]; decide)).trans h1, h2, fun j u hu => (World.cell?_of_block (a := ⟨g', j, none⟩) (s.block g' (by omega) (by unfold lab1; rw [if_neg (by omega)]; decide))).trans (h4 j u hu), h5⟩
/-- One more. -/
theorem Acc.push {w w2 : World} {o2 : Nat → Nat} {n0 n1 g cap g2 c2 : Nat} {acc : Fs} {xs : List Value} {e : Ex} {ao : Option Addr} {ce : Nat} (h : AccG w n0 acc g cap xs) (S : Sl w (Nw n1) e.kids ao) (hn1 : g < n1) (hw : n0 ≤ w.heap.size)
    (s : Step (fun x => x = 1) w (lab1 g) w2 o2) (r : Row w2 o2 1 25 5 (.slice (some ⟨g2, 0, none⟩) (acc.len + 1) c2) (acc.len + 1) (xs ++ [.int .i64 e.k, .int .i64 e.n, stv e.nm, .slice ao e.kids.len ce, .int .i64 e.a])) :
    Acc w2 n0 (acc.snoc e) (.slice (some ⟨g2, 0, none⟩) (acc.len + 1) c2) := by
  have hl : (acc.snoc e).len = acc.len + 1 := Fs.len_snoc acc e
  have h2 : o2 g2 = 1 := r.2 g2 rfl
  have hlt2 : g2 < w2.heap.size := r.lt rfl
  have hg2 : n0 ≤ g2 := by
    by_cases hlt : g2 < w.heap.size
    · have := (s.lab g2 hlt).symm.trans h2
      unfold lab1 at this
      by_cases e : g2 = g
      · rw [e]; exact h.1
      · rw [if_neg e] at this; cases this
    · omega
  have hb : ∀ k, (n0 ≤ k ∧ k ≠ g) → k < w.heap.size → w2.heap[k]? = w.heap[k]? := fun k hk hl => s.block k hl (by unfold lab1; rw [if_neg hk.2]; decide)
  have hq : ∀ k, (n0 ≤ k ∧ k ≠ g) → k < w.heap.size → (n0 ≤ k ∧ k ≠ g2) := fun k hk hl => ⟨hk.1, fun e => by
    have := (s.lab k hl).symm.trans (e ▸ h2)
    unfold lab1 at this
    rw [if_neg hk.2] at this
    cases this⟩
  refine ⟨g2, c2, xs ++ [.int .i64 e.k, .int .i64 e.n, stv e.nm, .slice ao e.kids.len ce, .int .i64 e.a], by rw [hl], hg2, by rw [hl]; exact r.1, ?_⟩
  have F1 := h.2.2.mono hb s.size hq
  have S1 : Sl w2 (fun b => n0 ≤ b ∧ b ≠ g2) e.kids ao := S.mono (fun k hk hl => hb k ⟨by have hk : n1 ≤ k := hk; have := h.1; omega, by have hk : n1 ≤ k := hk; omega⟩ hl) s.size (fun k hk hl => hq k ⟨by have hk : n1 ≤ k := hk; have := h.1; omega, by have hk : n1 ≤ k := hk; omega⟩ hl)
  exact F1.app (Fc.one ce S1)
theorem infoExpr : (Tryz.prog.info? 25).map (fun i => (i.zero, i.size, i.bytes)) = some (some (.agg #[.int .i64 0, .int .i64 0, .string ⟨#[]⟩, .slice none 0 0, .int .i64 0]), 5, 64) := by kernel_rfl
def slLen : Value → Nat
  | .slice _ n _ => n
  | _ => 0
end Go.Proofs.YtafnlhnenmpfoaaGreatDoor
namespace Go.Proofs.YtafnlhnenmpfoaaGreatDoor
open Go.ChangeShapes Go.WideShapes Go.ChangeAt Go.RowKit
set_option linter.unusedVariables false
set_option linter.unusedSimpArgs false

theorem new_cells_at (w : World) (xs : List Value) (t : TypeId) : ∀ j u, xs[j]? = some u → (w.alloc (.cells xs.toArray t)).cell? ((⟨w.heap.size, 0, none⟩ : Addr).add j) = some u := fun j u hu => by
  rw [show (⟨w.heap.size, 0, none⟩ : Addr).add j = ⟨w.heap.size, j, none⟩ by simp only [Addr.add]; split <;> simp_all]
  rw [cell_of_row _ w.heap.size j _ t (0, 0) (heap_alloc_new w _)]
  simpa using hu
set_option maxRecDepth 100000 in
set_option maxHeartbeats 2000000 in
theorem args_r {rec : Rdr} (R : RecOk rec) {w : World} {rb o q : Nat} {ts : List Tk} (many : Nat) (hm1 : 1 ≤ many) (hm2 : many ≤ 2) (ho : o ≤ 64) (hq : q ≤ 4) (h : RdS w rb o q ts) (T : Tabs rb w) (hn : argsR rec many o q ts ≠ .out) :
    Calls Tryz.prog 143 #[.pointer (some ⟨rb, 0, none⟩), .int .i64 (many : Nat)] w (PostF rb o q w (argsR rec many o q ts)) := by
  obtain ⟨W, hW⟩ : ∃ W, W = argsR rec many o q ts := ⟨_, rfl⟩
  rw [← hW] at hn ⊢
  have HW : Hid (W = argsR rec many o q ts) := hW
  have hrb := h.lt
  have K0 := Keep.refl rb w
  clear hW
  go_enter Tryz.func143, Tryz.ntmps143
  have c1 := enter_r [40] h ho (fun e => hn (by rw [HW.out]; simp only [argsR, e, Rs.bind]))
  go_wp2_with fail
  refine c1.mono ?_
  rintro e w1 hP
  clear c1
  cases hr1 : enterT [40] o ts using Rs.on with
  | out => rw [hr1] at hP; exact hP.elim
  | bad er a =>
    rw [hr1] at hP
    obtain ⟨rfl, k1⟩ := hP
    have KB := K0.trans k1
    have FIN : Hid (W = .bad er a) := by show W = _; rw [HW.out]; simp only [argsR, hr1, Rs.bind]
    clear HW
    go_wp2
    exact ⟨rfl, by rw [FIN.out]; exact And.intro rfl KB⟩
  | ok a0 t1 =>
    rw [hr1] at hP
    obtain ⟨rfl, h1, k1⟩ := hP
    have K1 := K0.trans k1
    have T1 := T.keep k1
    clear K0
    have ho1 := enter_le hr1 ho
    have c2 := query_r R (o := o + 1) (q := q) (by omega) (by omega) h1 T1 (fun e => hn (by rw [HW.out]; simp only [argsR, hr1, e, Rs.bind]))
    go_wp2_with fail
    refine c2.mono ?_
    rintro e w2 hP
    clear c2
    cases hr2 : rec 1 (o + 1) q t1 using Rs.on with
    | out => rw [hr2] at hP; exact hP.elim
    | bad er a =>
      rw [hr2] at hP
      obtain ⟨rfl, k2⟩ := hP
      have KB := K1.trans k2
      have FIN : Hid (W = .bad er a) := by show W = _; rw [HW.out]; simp only [argsR, hr1, hr2, Rs.bind]
      clear HW
      go_wp2
      exact ⟨rfl, by rw [FIN.out]; exact And.intro rfl KB⟩
    | ok x2 t2 =>
      rw [hr2] at hP
      obtain ⟨ao2, cap2, rfl, S2, h2, k2⟩ := hP
      have S2a := S2.low (show w.heap.size ≤ _ from K1.size)
      clear S2
      have K2 := K1.trans k2
      have T2 := T1.keep k2
      clear K1 T1
      have A0 := Acc.one cap2 S2a K2.size
      have h3 := h2.alloc (.cells #[.int .i64 x2.k, .int .i64 x2.n, stv x2.nm, .slice ao2 x2.kids.len cap2, .int .i64 x2.a] 25)
      have K3 := K2.alloc (.cells #[.int .i64 x2.k, .int .i64 x2.n, stv x2.nm, .slice ao2 x2.kids.len cap2, .int .i64 x2.a] 25)
      have T3 := T2.keep ((Keep.refl rb w2).alloc (.cells #[.int .i64 x2.k, .int .i64 x2.n, stv x2.nm, .slice ao2 x2.kids.len cap2, .int .i64 x2.a] 25))
      obtain ⟨A, hA⟩ : ∃ A, A = argsL rec (many - 1) (o + 1) q (one x2) t2 := ⟨_, rfl⟩
      have HA : Hid (argsL rec (many - (one x2).len) (o + 1) q (one x2) t2 = A) := hA.symm
      have HW2 : Hid (W = A.bind fun ks t3 => (passT [41] t3).bind fun _ t4 => .ok ks t4) := by show W = _; rw [HW.out, hA]; simp only [argsR, hr1, hr2, Rs.bind]
      clear HW hA hr1 hr2 h2 K2 T2 S2a
      obtain ⟨ii, hii, hzi0, hzi1, hzi2⟩ := info_parts infoExpr
      rw [exV_out]
      go_wp2
      go_loopw [5] (fun v wr => ∃ acc ti, (acc : Fs).len ≤ many ∧ 1 ≤ acc.len ∧ Acc wr w.heap.size acc v ∧ RdS wr rb (o + 1) q ti ∧ Keep rb w wr ∧ Tabs rb wr ∧ Hid (argsL rec (many - acc.len) (o + 1) q acc ti = A)) (fun v _ => many - slLen v)
      case atStart => exact ⟨one x2, t2, hm1, Nat.le_refl _, A0, h3, K3, T3, HA⟩
      case round =>
        clear A0 h3 K3 T3 HA
        obtain ⟨acc, ti, hl1, hl2, A1, h4, K4, T4, HA⟩ := hrel
        by_cases hlt : acc.len < many
        · obtain ⟨j, hj⟩ : ∃ j, many - acc.len = j + 1 := ⟨many - acc.len - 1, by omega⟩
          have HA2 : Hid (A = (passT [44] ti).bind fun _ t1 => (rec 1 (o + 1) q t1).bind fun e t2 => argsL rec j (o + 1) q (acc.snoc e) t2) := by show A = _; rw [← HA.out, hj]; rfl
          obtain ⟨g, cap, xs, rfl, AG⟩ := A1
          have hltI : (acc.len : Int) < (many : Int) := by omega
          have hP0 : passT [44] ti ≠ .out := fun e => hn (by rw [HW2.out, HA2.out, e]; rfl)
          have c5 := pass_r [44] h4 hP0
          go_wp2_with fail
          refine c5.mono ?_
          rintro e w5 hP
          clear c5
          cases hr5 : passT [44] ti using Rs.on with
          | out => rw [hr5] at hP; exact hP.elim
          | bad er a =>
            rw [hr5] at hP
            obtain ⟨rfl, k5⟩ := hP
            have KB := K4.trans k5
            have FIN : Hid (W = .bad er a) := by show W = _; rw [HW2.out, HA2.out, hr5]; rfl
            clear HW2 HA2
            go_wp2
            exact ⟨rfl, by rw [FIN.out]; exact And.intro rfl KB⟩
          | ok a5 t5 =>
            rw [hr5] at hP
            obtain ⟨rfl, h5, k5⟩ := hP
            have K5 := K4.trans k5
            have T5 := T4.keep k5
            have A5 : Acc w5 w.heap.size acc (.slice (some ⟨g, 0, none⟩) acc.len cap) := Acc.keep ⟨g, cap, xs, rfl, AG⟩ k5 hrb
            have c6 := query_r R (by omega) hq h5 T5 (fun e => hn (by rw [HW2.out, HA2.out, hr5]; simp only [Rs.bind, e]))
            clear K4 T4 h4 k5 AG
            go_wp2_with fail
            refine c6.mono ?_
            rintro e w6 hP
            clear c6
            cases hr6 : rec 1 (o + 1) q t5 using Rs.on with
            | out => rw [hr6] at hP; exact hP.elim
            | bad er a =>
              rw [hr6] at hP
              obtain ⟨rfl, k6⟩ := hP
              have KB := K5.trans k6
              have FIN : Hid (W = .bad er a) := by show W = _; rw [HW2.out, HA2.out, hr5]; simp only [Rs.bind, hr6]
              clear HW2 HA2
              go_wp2
              exact ⟨rfl, by rw [FIN.out]; exact And.intro rfl KB⟩
            | ok y t6 =>
              rw [hr6] at hP
              obtain ⟨ao6, cap6, rfl, S6, h6, k6⟩ := hP
              have K6 := K5.trans k6
              have T6 := T5.keep k6
              have A6 := A5.keep k6 hrb
              have HA3 : Hid (argsL rec (many - (acc.snoc y).len) (o + 1) q (acc.snoc y) t6 = A) := by show _ = A; rw [Fs.len_snoc, show many - (acc.len + 1) = j by omega, HA2.out, hr5]; simp only [Rs.bind, hr6]
              obtain ⟨g', cap', xs, hv, AG⟩ := A6
              simp only [Value.slice.injEq, Option.some.injEq, Addr.mk.injEq, true_and, and_true] at hv
              obtain ⟨rfl, rfl⟩ := hv
              have hg5 : g < w5.heap.size := by obtain ⟨g2, c2, x2, hv, B⟩ := A5; simp only [Value.slice.injEq, Option.some.injEq, Addr.mk.injEq, true_and, and_true] at hv; obtain ⟨rfl, rfl⟩ := hv; exact B.row.lt rfl
              have AG7 : AccG (w6.alloc (.cells #[.int .i64 y.k, .int .i64 y.n, stv y.nm, .slice ao6 y.kids.len cap6, .int .i64 y.a] 25)) w.heap.size acc g cap xs := ⟨AG.1, (AG.row.step (allocStep (fun _ => False) w6 (lab1 g) _) id).1, AG.2.2.mono (fun i hp hl => Below.heap_alloc w6 _ i hl) (by simp) (fun _ h _ => h)⟩
              have S7 := S6.allocN (.cells #[.int .i64 y.k, .int .i64 y.n, stv y.nm, .slice ao6 y.kids.len cap6, .int .i64 y.a] 25)
              have h7 := h6.alloc (.cells #[.int .i64 y.k, .int .i64 y.n, stv y.nm, .slice ao6 y.kids.len cap6, .int .i64 y.a] 25)
              have K7 := K6.alloc (.cells #[.int .i64 y.k, .int .i64 y.n, stv y.nm, .slice ao6 y.kids.len cap6, .int .i64 y.a] 25)
              have T7 := T6.keep ((Keep.refl rb w6).alloc (.cells #[.int .i64 y.k, .int .i64 y.n, stv y.nm, .slice ao6 y.kids.len cap6, .int .i64 y.a] 25))
              clear A5 K5 T5 h5 k6 K6 T6 S6 h6 HA2 hr5 hr6 AG
              have b1 : acc.len + 1 ≤ maxLen := by unfold maxLen; omega
              have b2 : (acc.len + 1) * 64 ≤ 140737488355328 := by omega
              have hone : ∀ u ∈ [Value.int .i64 y.k, .int .i64 y.n, stv y.nm, .slice ao6 y.kids.len cap6, .int .i64 y.a], u.oneCell' = true := by intro u hu; simp at hu; rcases hu with rfl | rfl | rfl | rfl | rfl <;> rfl
              rw [exV_out]
              go_wp2_with (first | (at_builtin; refine wpList_append_lab rfl (.tmp 17) (.tmp 20) 23 rfl 25 ii _ 5 64 Tryz.underlying23 hii hzi0 hzi1 hzi2 rfl (by decide) (lab1 g) 1 _ acc.len xs rfl AG7.row ⟨w6.heap.size, 0, none⟩ 1 1 [.int .i64 y.k, .int .i64 y.n, stv y.nm, .slice ao6 y.kids.len cap6, .int .i64 y.a] rfl rfl (new_cells_at w6 _ _) hone (by decide) b1 b2 ?_) | go_in)
              intro g8 c8 w8 o8 r8 s8
              have A8 := Acc.push AG7 S7 hg5 K7.size s8 r8
              have h8 := h7.step1 s8 (Nat.lt_of_lt_of_le hrb AG7.1)
              have K8 := K7.step1 s8 AG7.1
              have T8 := T.keep K8
              clear AG7 S7 h7 K7 T7 r8 s8 hone
              go_wp2
              go_roundw
              case rel => (try ((repeat apply Exists.intro); refine ⟨?_, rfl⟩)); exact ⟨acc.snoc y, t6, by rw [Fs.len_snoc]; omega, by rw [Fs.len_snoc]; omega, A8, h8, K8, T8, HA3⟩
              case measure => simp [slLen]; omega
        · have hlen : acc.len = many := by omega
          have HA2 : Hid (A = .ok acc ti) := by show A = _; rw [← HA.out, show many - acc.len = 0 by omega]; rfl
          obtain ⟨ao, cap, rfl, S4⟩ := A1.sl
          have hltI : ¬ (acc.len : Int) < (many : Int) := by omega
          have c5 := pass_r [41] h4 (fun e => hn (by rw [HW2.out, HA2.out]; simp only [Rs.bind, e]))
          clear HA hlen
          go_wp2_with fail
          refine c5.mono ?_
          rintro e w5 hP
          clear c5
          cases hr5 : passT [41] ti using Rs.on with
          | out => rw [hr5] at hP; exact hP.elim
          | bad er a =>
            rw [hr5] at hP
            obtain ⟨rfl, k5⟩ := hP
            have KB := K4.trans k5
            have FIN : Hid (W = .bad er a) := by show W = _; rw [HW2.out, HA2.out]; simp only [Rs.bind, hr5]
            clear HW2 HA2
            go_wp2
            exact ⟨rfl, by rw [FIN.out]; exact And.intro rfl KB⟩
          | ok a5 t5 =>
            rw [hr5] at hP
            obtain ⟨rfl, h5, k5⟩ := hP
            have K5 := K4.trans k5
            have S5 := S4.keepN k5 hrb
            have c6 := leave_r h5 ho
            have FIN : Hid (W = .ok acc t5) := by show W = _; rw [HW2.out, HA2.out]; simp only [Rs.bind, hr5]
            clear HW2 HA2 K4 S4 h4 k5 T4 A1
            go_wp2_with fail
            refine c6.mono ?_
            rintro e w6 ⟨rfl, h6, k6⟩
            have K6 := K5.trans k6
            have S6 := S5.keepN k6 hrb
            clear c6 K5 S5 k6 h5
            go_wp2
            go_ret
            rw [FIN.out]
            exact ⟨ao, cap, rfl, S6, h6, K6⟩
end Go.Proofs.YtafnlhnenmpfoaaGreatDoor
namespace Go.Proofs.YtafnlhnenmpfoaaGreatDoor
open Go.ChangeShapes Go.WideShapes Go.ChangeAt Go.RowKit
set_option linter.unusedVariables false
set_option linter.unusedSimpArgs false

set_option maxRecDepth 100000 in
set_option maxHeartbeats 2000000 in
theorem mem_r {rec : Rdr} (R : RecOk rec) {w : World} {rb o q : Nat} {ts : List Tk} (m : Nat) (hm : m ≤ 1000000) (ho : o ≤ 64) (hq : q ≤ 4) (h : RdS w rb o q ts) (T : Tabs rb w) (hn : memR rec m o q ts ≠ .out) :
    Calls Tryz.prog 162 #[.pointer (some ⟨rb, 0, none⟩)] w (PostF rb o q w (memR rec m o q ts)) := by
  obtain ⟨W, hW⟩ : ∃ W, W = memR rec m o q ts := ⟨_, rfl⟩
  rw [← hW] at hn ⊢
  have HW : Hid (W = memR rec m o q ts) := hW
  have hrb := h.lt
  have K0 := Keep.refl rb w
  cases ts with
  | nil => exact absurd (HW.out.trans rfl) hn
  | cons x r =>
  have c0 := has_r [125] h
  clear hW
  go_enter Tryz.func162, Tryz.ntmps162
  go_wp2_with fail
  refine c0.mono ?_
  rintro e w1 ⟨rfl, b1⟩
  have h1 := h.below b1
  have K1 : Keep rb w w1 := Keep.ofBelow b1
  have T1 := T.keep K1
  clear c0 b1 K0 h
  by_cases hx : x.t = [125]
  · have hx2 : (x.t == [125]) = true := by simpa using hx
    have FIN : Hid (W = .ok .nil (x :: r)) := by show W = _; rw [HW.out]; simp only [memR, hx, if_true]
    clear HW hx
    go_wp2
    go_ret
    rw [FIN.out]
    exact ⟨none, 0, rfl, Sl.nil _ _ _, h1, K1⟩
  · have hx2 : (x.t == [125]) = false := by simpa using hx
    have HW1 : Hid (W = (rec 1 o q (x :: r)).bind fun e t1 => memL rec m o q (one e) t1) := by show W = _; rw [HW.out]; simp only [memR, hx, if_false]
    have c2 := query_r R ho hq h1 T1 (fun e => hn (by rw [HW1.out, e]; rfl))
    clear HW hx
    go_wp2_with fail
    refine c2.mono ?_
    rintro e w2 hP
    clear c2
    cases hr2 : rec 1 o q (x :: r) using Rs.on with
    | out => rw [hr2] at hP; exact hP.elim
    | bad er a =>
      rw [hr2] at hP
      obtain ⟨rfl, k2⟩ := hP
      have KB := K1.trans k2
      have FIN : Hid (W = .bad er a) := by show W = _; rw [HW1.out, hr2]; rfl
      clear HW1
      go_wp2
      exact ⟨rfl, by rw [FIN.out]; exact And.intro rfl KB⟩
    | ok x2 t2 =>
      rw [hr2] at hP
      obtain ⟨ao2, cap2, rfl, S2, h2, k2⟩ := hP
      have K2 := K1.trans k2
      have T2 := T1.keep k2
      have A0 := Acc.one cap2 (S2.low K1.size) K2.size
      have h3 := h2.alloc (.cells #[.int .i64 x2.k, .int .i64 x2.n, stv x2.nm, .slice ao2 x2.kids.len cap2, .int .i64 x2.a] 25)
      have K3 := K2.alloc (.cells #[.int .i64 x2.k, .int .i64 x2.n, stv x2.nm, .slice ao2 x2.kids.len cap2, .int .i64 x2.a] 25)
      have T3 := T2.keep ((Keep.refl rb w2).alloc (.cells #[.int .i64 x2.k, .int .i64 x2.n, stv x2.nm, .slice ao2 x2.kids.len cap2, .int .i64 x2.a] 25))
      have HA : Hid (memL rec m o q (one x2) t2 = W) := by show _ = W; rw [HW1.out, hr2]; rfl
      clear HW1 hr2 h2 K2 T2 S2 h1 K1 T1 k2
      obtain ⟨ii, hii, hzi0, hzi1, hzi2⟩ := info_parts infoExpr
      rw [exV_out]
      go_wp2
      go_loopw [3] (fun v wr => ∃ acc ti m', (acc : Fs).len + m' = m + 1 ∧ Acc wr w.heap.size acc v ∧ RdS wr rb o q ti ∧ Keep rb w wr ∧ Tabs rb wr ∧ Hid (memL rec m' o q acc ti = W)) (fun v _ => m + 2 - slLen v)
      case atStart => exact ⟨one x2, t2, m, by show 1 + m = m + 1; omega, A0, h3, K3, T3, HA⟩
      case round =>
        clear A0 h3 K3 T3 HA hx2
        obtain ⟨acc, ti, m', hl, A1, h4, K4, T4, HA⟩ := hrel
        cases m' with
        | zero => exact absurd HA.out.symm hn
        | succ m' =>
        cases ti with
        | nil => exact absurd HA.out.symm hn
        | cons y l =>
        obtain ⟨g, cap, xs, rfl, AG⟩ := A1
        have c5 := has_r [44] h4
        go_wp2_with fail
        refine c5.mono ?_
        rintro e w5 ⟨rfl, b5⟩
        have h5 := h4.below b5
        have k5 : Keep rb _ w5 := Keep.ofBelow b5
        have K5 := K4.trans k5
        have T5 := T4.keep k5
        have A5 : Acc w5 w.heap.size acc (.slice (some ⟨g, 0, none⟩) acc.len cap) := Acc.keep ⟨g, cap, xs, rfl, AG⟩ k5 hrb
        clear c5 b5 h4 K4 T4 k5 AG xs
        by_cases hy : y.t = [44]
        · have hy2 : (y.t == [44]) = true := by simpa using hy
          have HA2 : Hid (W = (rec 1 o q l).bind fun e t2 => memL rec m' o q (acc.snoc e) t2) := by show W = _; rw [← HA.out]; simp only [memL, hy, if_true]
          have c6 := pass_r [44] h5 (by simp [passT, hy])
          rw [show passT [44] (y :: l) = .ok y.a l by simp [passT, hy]] at c6
          have c6 : Calls _ _ _ _ (fun e w' => e = .returned (.int .i64 (y.a : Nat)) ∧ RdS w' rb o q l ∧ Keep rb w5 w') := c6
          clear HA hy
          go_wp2_with fail
          refine c6.mono ?_
          rintro e w6 ⟨rfl, h6, k6⟩
          have K6 := K5.trans k6
          have T6 := T5.keep k6
          have A6 := A5.keep k6 hrb
          clear c6 K5 T5 A5 k6 h5
          have c7 := query_r R ho hq h6 T6 (fun e => hn (by rw [HA2.out, e]; rfl))
          go_wp2_with fail
          refine c7.mono ?_
          rintro e w7 hP
          clear c7
          cases hr7 : rec 1 o q l using Rs.on with
          | out => rw [hr7] at hP; exact hP.elim
          | bad er a =>
            rw [hr7] at hP
            obtain ⟨rfl, k7⟩ := hP
            have KB := K6.trans k7
            have FIN : Hid (W = .bad er a) := by show W = _; rw [HA2.out, hr7]; rfl
            clear HA2
            go_wp2
            exact ⟨rfl, by rw [FIN.out]; exact And.intro rfl KB⟩
          | ok z t7 =>
            rw [hr7] at hP
            obtain ⟨ao7, cap7, rfl, S7, h7, k7⟩ := hP
            have K7 := K6.trans k7
            have T7 := T6.keep k7
            have A7 := A6.keep k7 hrb
            have HA3 : Hid (memL rec m' o q (acc.snoc z) t7 = W) := by show _ = W; rw [HA2.out, hr7]; rfl
            obtain ⟨g', cap', xs, hv, AG⟩ := A7
            simp only [Value.slice.injEq, Option.some.injEq, Addr.mk.injEq, true_and, and_true] at hv
            obtain ⟨rfl, rfl⟩ := hv
            have hg6 : g < w6.heap.size := by obtain ⟨g2, c2, x2, hv, B⟩ := A6; simp only [Value.slice.injEq, Option.some.injEq, Addr.mk.injEq, true_and, and_true] at hv; obtain ⟨rfl, rfl⟩ := hv; exact B.row.lt rfl
            have AG8 : AccG (w7.alloc (.cells #[.int .i64 z.k, .int .i64 z.n, stv z.nm, .slice ao7 z.kids.len cap7, .int .i64 z.a] 25)) w.heap.size acc g cap xs := ⟨AG.1, (AG.row.step (allocStep (fun _ => False) w7 (lab1 g) _) id).1, AG.2.2.mono (fun i hp hl => Below.heap_alloc w7 _ i hl) (by simp) (fun _ h _ => h)⟩
            have S8 := S7.allocN (.cells #[.int .i64 z.k, .int .i64 z.n, stv z.nm, .slice ao7 z.kids.len cap7, .int .i64 z.a] 25)
            have h8 := h7.alloc (.cells #[.int .i64 z.k, .int .i64 z.n, stv z.nm, .slice ao7 z.kids.len cap7, .int .i64 z.a] 25)
            have K8 := K7.alloc (.cells #[.int .i64 z.k, .int .i64 z.n, stv z.nm, .slice ao7 z.kids.len cap7, .int .i64 z.a] 25)
            clear A6 K6 T6 h6 k7 K7 T7 S7 h7 HA2 hr7 AG
            have b1 : acc.len + 1 ≤ maxLen := by unfold maxLen; omega
            have b2 : (acc.len + 1) * 64 ≤ 140737488355328 := by omega
            have hone : ∀ u ∈ [Value.int .i64 z.k, .int .i64 z.n, stv z.nm, .slice ao7 z.kids.len cap7, .int .i64 z.a], u.oneCell' = true := by intro u hu; simp at hu; rcases hu with rfl | rfl | rfl | rfl | rfl <;> rfl
            rw [exV_out]
            go_wp2_with (first | (at_builtin; refine wpList_append_lab rfl (.tmp 13) (.tmp 16) 23 rfl 25 ii _ 5 64 Tryz.underlying23 hii hzi0 hzi1 hzi2 rfl (by decide) (lab1 g) 1 _ acc.len xs rfl AG8.row ⟨w7.heap.size, 0, none⟩ 1 1 [.int .i64 z.k, .int .i64 z.n, stv z.nm, .slice ao7 z.kids.len cap7, .int .i64 z.a] rfl rfl (new_cells_at w7 _ _) hone (by decide) b1 b2 ?_) | go_in)
            intro g9 c9 w9 o9 r9 s9
            have A9 := Acc.push AG8 S8 hg6 K8.size s9 r9
            have h9 := h8.step1 s9 (Nat.lt_of_lt_of_le hrb AG8.1)
            have K9 := K8.step1 s9 AG8.1
            have T9 := T.keep K9
            clear AG8 S8 h8 K8 r9 s9 hone
            go_wp2
            go_roundw
            case rel => (try ((repeat apply Exists.intro); refine ⟨?_, rfl⟩)); exact ⟨acc.snoc z, t7, m', by rw [Fs.len_snoc]; omega, A9, h9, K9, T9, HA3⟩
            case measure => simp [slLen]; omega
        · have hy2 : (y.t == [44]) = false := by simpa using hy
          have FIN : Hid (W = .ok acc (y :: l)) := by show W = _; rw [← HA.out]; simp only [memL, hy, if_false]
          obtain ⟨ao, cap', hv, S5⟩ := A5.sl
          simp only [Value.slice.injEq, true_and] at hv
          obtain ⟨rfl, rfl⟩ := hv
          clear HA hy A5
          go_wp2
          go_ret
          rw [FIN.out]
          exact ⟨_, cap, rfl, S5, h5, K5⟩
end Go.Proofs.YtafnlhnenmpfoaaGreatDoor
