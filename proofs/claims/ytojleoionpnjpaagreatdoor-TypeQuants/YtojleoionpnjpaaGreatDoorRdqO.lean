/- The document's own reader: a call of two arguments. -/
import Derived.Test.YtojleoionpnjpaaGreatDoorRdqL
namespace Go.Proofs.YtojleoionpnjpaaGreatDoor
open Go.ChangeShapes Go.WideShapes Go.ChangeAt Go.RowKit
set_option linter.unusedVariables false
set_option linter.unusedSimpArgs false

theorem Rs.bind_assoc {α β γ : Type} (r : Rs α) (f : α → List Tk → Rs β) (g : β → List Tk → Rs γ) : (r.bind f).bind g = r.bind fun x t => (f x t).bind g := by
  cases r using Rs.on with
  | out => rfl
  | bad e a => rfl
  | ok x t => rfl
/-- A call: its word stands first. -/
def callR (rec : Rdr) (many n a o q : Nat) (ts : List Tk) : Rs Ex := (argsR rec many o q ts.tail).bind fun ks t1 => .ok ⟨20, (n : Int) + 1, [], (a : Nat), ks⟩ t1
theorem Rq.same {w w2 : World} {rb i : Nat} {o q : Int} {er pl : Nat} {all : List Tk} (h : Rq w rb i o q er pl all) (hb : ∀ k, k ≤ rb → w2.heap[k]? = w.heap[k]?) : Rq w2 rb i o q er pl all := by
  obtain ⟨g, cap, h1, h2, h4, h5⟩ := h
  exact ⟨g, cap, (hb rb (Nat.le_refl _)).trans h1, h2, fun j u hu => (World.cell?_of_block (a := ⟨g, j, none⟩) (hb g (by omega))).trans (h4 j u hu), h5⟩
theorem QS.same {w w2 : World} {rb o q : Nat} {all : List Tk} {st : Sq} (h : QS w rb all o q st) (hb : ∀ k, k ≤ rb → w2.heap[k]? = w.heap[k]?) : QS w2 rb all o q st := by
  match st, h with
  | .inl (er, a), ⟨i, o', q', h1, h2⟩ => exact ⟨i, o', q', h1.same hb, h2⟩
  | .inr ts, ⟨i, pl, h1, h2⟩ => exact ⟨i, pl, h1.same hb, h2⟩
theorem QS.step1 {w w2 : World} {o2 : Nat → Nat} {rb g o q : Nat} {all : List Tk} {st : Sq} (h : QS w rb all o q st) (s : Step (fun x => x = 1) w (lab1 g) w2 o2) (hg : rb < g) : QS w2 rb all o q st := h.same fun k hk => s.block k (by have := h.lt; omega) (by unfold lab1; rw [if_neg (by omega)]; decide)
theorem Rs.ok_bind {α β : Type} (x : α) (t : List Tk) (f : α → List Tk → Rs β) : (Rs.ok x t).bind f = f x t := rfl
set_option maxRecDepth 100000 in
set_option maxHeartbeats 2000000 in
theorem call1_q {rec : Rdr} (R : RecQ rec) {w : World} {rb o q n : Nat} {all : List Tk} {x : Tk} {r : List Tk} (TI : ∀ x, x ∈ all → TokI x) (hxt : x.t ≠ []) (hn9 : 3 ≤ n ∧ n < 10) (h : QS w rb all o q (.inr (x :: r))) (hn : Nou (callR rec 1 n x.a o q) (.inr (x :: r))) :
    Calls Tryz.prog 98 #[.pointer (some ⟨rb, 0, none⟩), .int .i64 (n : Nat), .int .i64 (x.a : Nat)] w (PostQ rb all o q w (.inr (x :: r)) (callR rec 1 n x.a o q)) := by
  have hrb := h.lt
  have K0 : Keep rb w (w.alloc exZ) := (Keep.refl rb w).alloc _
  have Z0 : (w.alloc exZ).heap[w.heap.size]? = some exZ := heap_alloc_new w _
  have h0 := h.alloc exZ
  have C0 := Ctx.start hn
  have C1 := C0.eat (H := (fun ts => (enterT [40] o ts).bind fun _ t1 => (rec 1 (o + 1) q t1).bind fun e t2 => (passT [41] t2).bind fun _ t4 => .ok ⟨20, (n : Int) + 1, [], (x.a : Nat), one e⟩ t4)) (by simp only [callR, List.tail_cons, argsR, argsL, Rs.bind_assoc, Rs.ok_bind, Nat.sub_self, Nat.reduceSub])
  have hs1 : w.heap.size < (w.alloc exZ).heap.size := by simp
  have hnI : ¬ (n : Int) < 3 := by omega
  obtain ⟨ii, hii, hzi0, hzi1, hzi2⟩ := info_parts infoExpr
  obtain ⟨i, g, cap, L, hg, hi, hcL, hcap, hL, hm, -, d1, -, -, -, -, hf⟩ := h0.ok
  have h1 := h0.over (.inl hxt) d1
  have k1 := Keep.at (rb := rb) (w.alloc exZ) 1 (.int .i64 ((i : Int) + 1))
  clear C0 hn h0 hm
  go_enter Tryz.func98, Tryz.ntmps98
  go_upto_region 1 with fail
  generalize w.alloc exZ = v0 at *
  go_upto_region 2 with fail
  generalize v0.setCell ⟨rb, 1, none⟩ (.int .i64 ((i : Int) + 1)) = w1 at *
  clear d1 hf
  have Z1 := k1.blk Z0 (by have := K0.size; omega)
  have K1 := K0.trans k1
  clear K0 Z0
  have c2 := bracket_v TI [40] ⟨by decide, by decide⟩ h1
  go_wp2_with fail
  refine c2.mono ?_
  rintro e w2 ⟨x2, st2, rfl, h2, k2, Q2⟩
  have C2 := C1.step Q2
  clear c2 Q2 C1
  have Z2 := k2.blk Z1 (by have := K1.size; omega)
  have K2 := K1.trans k2
  clear K1 Z1
  have c3 := R _ rb all 1 (o + 1) (q) st2 TI (by omega) (by omega) h2 C2.nou
  go_wp2_with fail
  refine c3.mono ?_
  rintro e w3 ⟨x3, ao3, cap3, st3, rfl, S3, h3, k3, Q3⟩
  have C3 := C2.step Q3
  clear c3 Q3 C2
  have S3a := S3.low (show (w.heap.size + 1) ≤ _ from (by have := lt_of_block Z2; omega))
  clear S3
  have Z3 := k3.blk Z2 (by have := K2.size; omega)
  have K3 := K2.trans k3
  clear K2 Z2
  have A3_a := Acc.one cap3 S3a (by have := lt_of_block Z3; omega)
  have h3a := h3.alloc (.cells #[.int .i64 x3.k, .int .i64 x3.n, stv x3.nm, .slice ao3 x3.kids.len cap3, .int .i64 x3.a] 25)
  have K3a := K3.alloc (.cells #[.int .i64 x3.k, .int .i64 x3.n, stv x3.nm, .slice ao3 x3.kids.len cap3, .int .i64 x3.a] 25)
  have Z3a := (Below.heap_alloc w3 (.cells #[.int .i64 x3.k, .int .i64 x3.n, stv x3.nm, .slice ao3 x3.kids.len cap3, .int .i64 x3.a] 25) _ (lt_of_block Z3)).trans Z3
  clear h3 K3 Z3 S3a
  rw [exV_out]
  have c4 := close_v TI [41] ⟨by decide, by decide⟩ h3a
  go_wp2_with fail
  refine c4.mono ?_
  rintro e w4 ⟨x4, st4, rfl, h4, k4, Q4⟩
  have C4 := C3.step Q4
  clear c4 Q4 C3
  have Z4 := k4.blk Z3a (by have := K3a.size; omega)
  have K4 := K3a.trans k4
  have A3_4 := A3_a.keep k4 (by omega)
  clear K3a Z3a A3_a
  obtain ⟨aoF, capF, hvF, SF⟩ := A3_4.sl
  simp only [Value.slice.injEq] at hvF
  obtain ⟨rfl, -, rfl⟩ := hvF
  have KE := K4.set5 (b := w.heap.size) (by omega) (.int .i64 20) (.int .i64 ((n : Int) + 1)) (stv []) (.slice (some ⟨w3.heap.size, 0, none⟩) 1 1) (.int .i64 x.a)
  have RE := h4.set5 (b := w.heap.size) (by omega) (.int .i64 20) (.int .i64 ((n : Int) + 1)) (stv []) (.slice (some ⟨w3.heap.size, 0, none⟩) 1 1) (.int .i64 x.a)
  have ZE := set5k (.int .i64 20) (.int .i64 ((n : Int) + 1)) (stv []) (.slice (some ⟨w3.heap.size, 0, none⟩) 1 1) (.int .i64 x.a) Z4
  have SE : Sl _ (Nw w.heap.size) _ _ := (SF.set5 (b := w.heap.size) (by omega) (.int .i64 20) (.int .i64 ((n : Int) + 1)) (stv []) (.slice (some ⟨w3.heap.size, 0, none⟩) 1 1) (.int .i64 x.a)).low (by omega)
  obtain ⟨z0, z1, z2, z3, z4, zf⟩ := box5 Z4
  obtain ⟨u0, u1, u2, u3, u4, -⟩ := box5 ZE
  have FIN := C4.fin
  clear ZE SF K4 Z4 h4 A3_4
  go_wp2
  exact bodyPost_ret (v := exV ⟨20, ((n : Int) + 1), [], x.a, (one x3)⟩ (some ⟨w3.heap.size, 0, none⟩) 1) (by simp [results, Tryz.results98, go_sem, u0, u1, u2, u3, u4, exV]; try rfl) rfl ⟨_, _, _, _, rfl, SE, RE, KE, FIN⟩
end Go.Proofs.YtojleoionpnjpaaGreatDoor
namespace Go.Proofs.YtojleoionpnjpaaGreatDoor
open Go.ChangeShapes Go.WideShapes Go.ChangeAt Go.RowKit
set_option linter.unusedVariables false
set_option linter.unusedSimpArgs false

set_option maxRecDepth 100000 in
set_option maxHeartbeats 2000000 in
theorem call2_q {rec : Rdr} (R : RecQ rec) {w : World} {rb o q n : Nat} {all : List Tk} {x : Tk} {r : List Tk} (TI : ∀ x, x ∈ all → TokI x) (hxt : x.t ≠ []) (hn9 : n < 3) (h : QS w rb all o q (.inr (x :: r))) (hn : Nou (callR rec 2 n x.a o q) (.inr (x :: r))) :
    Calls Tryz.prog 98 #[.pointer (some ⟨rb, 0, none⟩), .int .i64 (n : Nat), .int .i64 (x.a : Nat)] w (PostQ rb all o q w (.inr (x :: r)) (callR rec 2 n x.a o q)) := by
  have hrb := h.lt
  have K0 : Keep rb w (w.alloc exZ) := (Keep.refl rb w).alloc _
  have Z0 : (w.alloc exZ).heap[w.heap.size]? = some exZ := heap_alloc_new w _
  have h0 := h.alloc exZ
  have C0 := Ctx.start hn
  have C1 := C0.eat (H := (fun ts => (enterT [40] o ts).bind fun _ t1 => (rec 1 (o + 1) q t1).bind fun e t2 => (passT [44] t2).bind fun _ t2b => (rec 1 (o + 1) q t2b).bind fun e2 t2c => (passT [41] t2c).bind fun _ t4 => .ok ⟨20, (n : Int) + 1, [], (x.a : Nat), (one e).snoc e2⟩ t4)) (by simp only [callR, List.tail_cons, argsR, argsL, Rs.bind_assoc, Rs.ok_bind, Nat.sub_self, Nat.reduceSub])
  have hs1 : w.heap.size < (w.alloc exZ).heap.size := by simp
  have hnI : (n : Int) < 3 := by omega
  obtain ⟨ii, hii, hzi0, hzi1, hzi2⟩ := info_parts infoExpr
  obtain ⟨i, g, cap, L, hg, hi, hcL, hcap, hL, hm, -, d1, -, -, -, -, hf⟩ := h0.ok
  have h1 := h0.over (.inl hxt) d1
  have k1 := Keep.at (rb := rb) (w.alloc exZ) 1 (.int .i64 ((i : Int) + 1))
  clear C0 hn h0 hm
  go_enter Tryz.func98, Tryz.ntmps98
  go_upto_region 1 with fail
  generalize w.alloc exZ = v0 at *
  go_upto_region 2 with fail
  generalize v0.setCell ⟨rb, 1, none⟩ (.int .i64 ((i : Int) + 1)) = w1 at *
  clear d1 hf
  have Z1 := k1.blk Z0 (by have := K0.size; omega)
  have K1 := K0.trans k1
  clear K0 Z0
  have c2 := bracket_v TI [40] ⟨by decide, by decide⟩ h1
  go_wp2_with fail
  refine c2.mono ?_
  rintro e w2 ⟨x2, st2, rfl, h2, k2, Q2⟩
  have C2 := C1.step Q2
  clear c2 Q2 C1
  have Z2 := k2.blk Z1 (by have := K1.size; omega)
  have K2 := K1.trans k2
  clear K1 Z1
  have c3 := R _ rb all 1 (o + 1) (q) st2 TI (by omega) (by omega) h2 C2.nou
  go_wp2_with fail
  refine c3.mono ?_
  rintro e w3 ⟨x3, ao3, cap3, st3, rfl, S3, h3, k3, Q3⟩
  have C3 := C2.step Q3
  clear c3 Q3 C2
  have S3a := S3.low (show (w.heap.size + 1) ≤ _ from (by have := lt_of_block Z2; omega))
  clear S3
  have Z3 := k3.blk Z2 (by have := K2.size; omega)
  have K3 := K2.trans k3
  clear K2 Z2
  have A3_a := Acc.one cap3 S3a (by have := lt_of_block Z3; omega)
  have h3a := h3.alloc (.cells #[.int .i64 x3.k, .int .i64 x3.n, stv x3.nm, .slice ao3 x3.kids.len cap3, .int .i64 x3.a] 25)
  have K3a := K3.alloc (.cells #[.int .i64 x3.k, .int .i64 x3.n, stv x3.nm, .slice ao3 x3.kids.len cap3, .int .i64 x3.a] 25)
  have Z3a := (Below.heap_alloc w3 (.cells #[.int .i64 x3.k, .int .i64 x3.n, stv x3.nm, .slice ao3 x3.kids.len cap3, .int .i64 x3.a] 25) _ (lt_of_block Z3)).trans Z3
  clear h3 K3 Z3 S3a
  rw [exV_out]
  have c4 := take_v TI [44] ⟨by decide, by decide⟩ h3a
  go_wp2_with fail
  refine c4.mono ?_
  rintro e w4 ⟨x4, st4, rfl, h4, k4, Q4⟩
  have C4 := C3.step Q4
  clear c4 Q4 C3
  have Z4 := k4.blk Z3a (by have := K3a.size; omega)
  have K4 := K3a.trans k4
  have A3_4 := A3_a.keep k4 (by omega)
  clear K3a Z3a A3_a
  have c5 := R _ rb all 1 (o + 1) (q) st4 TI (by omega) (by omega) h4 C4.nou
  go_wp2_with fail
  refine c5.mono ?_
  have hw5 : w3.heap.size < w4.heap.size := by obtain ⟨g9, c9, x9, hv9, B9⟩ := A3_4; simp only [Value.slice.injEq, Option.some.injEq, Addr.mk.injEq, true_and, and_true] at hv9; obtain ⟨e9, -, -⟩ := hv9; subst e9; exact B9.row.lt rfl
  rintro e w5 ⟨x5, ao5, cap5, st5, rfl, SN0, h5, k5, Q5⟩
  have C5 := C4.step Q5
  clear c5 Q5 C4
  have SN := SN0
  have S5a := SN0.low (show (w.heap.size + 1) ≤ _ from (by have := lt_of_block Z4; omega))
  clear SN0
  have Z5 := k5.blk Z4 (by have := K4.size; omega)
  have K5 := K4.trans k5
  have A3_5 := A3_4.keep k5 (by omega)
  clear K4 Z4 A3_4
  obtain ⟨gA, capA, xs, hvA, AG⟩ := A3_5
  simp only [Value.slice.injEq, Option.some.injEq, Addr.mk.injEq, true_and, and_true] at hvA
  obtain ⟨hgA, -, rfl⟩ := hvA
  subst hgA
  have AG8 : AccG (World.alloc w5 (.cells #[.int .i64 x5.k, .int .i64 x5.n, stv x5.nm, .slice ao5 x5.kids.len cap5, .int .i64 x5.a] 25)) (w.heap.size + 1) (one x3) w3.heap.size 1 xs := ⟨AG.1, (AG.row.step (allocStep (fun _ => False) w5 (lab1 w3.heap.size) _) id).1, AG.2.2.mono (fun i hp hl => Below.heap_alloc w5 _ i hl) (by simp) (fun _ h _ => h)⟩
  have S8 := SN.allocN (.cells #[.int .i64 x5.k, .int .i64 x5.n, stv x5.nm, .slice ao5 x5.kids.len cap5, .int .i64 x5.a] 25)
  have h8 := h5.alloc (.cells #[.int .i64 x5.k, .int .i64 x5.n, stv x5.nm, .slice ao5 x5.kids.len cap5, .int .i64 x5.a] 25)
  have K8 := K5.alloc (.cells #[.int .i64 x5.k, .int .i64 x5.n, stv x5.nm, .slice ao5 x5.kids.len cap5, .int .i64 x5.a] 25)
  have Z8 := (Below.heap_alloc w5 (.cells #[.int .i64 x5.k, .int .i64 x5.n, stv x5.nm, .slice ao5 x5.kids.len cap5, .int .i64 x5.a] 25) _ (lt_of_block Z5)).trans Z5
  have hone : ∀ u ∈ [Value.int .i64 x5.k, .int .i64 x5.n, stv x5.nm, .slice ao5 x5.kids.len cap5, .int .i64 x5.a], u.oneCell' = true := by intro u hu; simp at hu; rcases hu with rfl | rfl | rfl | rfl | rfl <;> rfl
  have b1 : 1 + 1 ≤ maxLen := by unfold maxLen; omega
  have b2 : (1 + 1) * 64 ≤ 140737488355328 := by omega
  have l1 : (one x3).len = 1 := rfl
  have AR := AG8.row
  rw [l1] at AR
  clear l1
  clear AG h5 K5 Z5 S5a SN
  rw [exV_out]
  go_wp2_with (first | (at_builtin; refine wpList_append_lab rfl (.tmp 24) (.tmp 27) 23 rfl 25 ii _ 5 64 Tryz.underlying23 hii hzi0 hzi1 hzi2 rfl (by decide) (lab1 w3.heap.size) 1 _ 1 xs rfl AR ⟨w5.heap.size, 0, none⟩ 1 1 [.int .i64 x5.k, .int .i64 x5.n, stv x5.nm, .slice ao5 x5.kids.len cap5, .int .i64 x5.a] rfl rfl (new_cells_at w5 _ _) hone (by decide) b1 b2 ?_) | go_in)
  intro g8 c8 w8 o8 r8 s8
  have A8 := Acc.push AG8 S8 hw5 (by have := lt_of_block Z8; omega) s8 r8
  have hgr : w.heap.size + 1 ≤ w3.heap.size := AG8.1
  have h9 := h8.step1 s8 (by omega)
  have K9 := K8.step1 s8 (by omega)
  have Z9 := (s8.block w.heap.size (lt_of_block Z8) (by unfold lab1; rw [if_neg (by omega)]; decide)).trans Z8
  clear AG8 AR S8 h8 K8 Z8 r8 s8 hone b1 b2 hii hzi0 hzi1 hzi2 ii hw5 hgr xs
  have c11 := close_v TI [41] ⟨by decide, by decide⟩ h9
  go_wp2_with fail
  refine c11.mono ?_
  rintro e w11 ⟨x11, st11, rfl, h11, k11, Q11⟩
  have C11 := C5.step Q11
  clear c11 Q11 C5
  have Z11 := k11.blk Z9 (by have := K9.size; omega)
  have K11 := K9.trans k11
  have A8_11 := A8.keep k11 (by omega)
  clear K9 Z9 A8
  obtain ⟨aoF, capF, hvF, SF⟩ := A8_11.sl
  simp only [Value.slice.injEq] at hvF
  obtain ⟨rfl, -, rfl⟩ := hvF
  have KE := K11.set5 (b := w.heap.size) (by omega) (.int .i64 20) (.int .i64 ((n : Int) + 1)) (stv []) (.slice (some ⟨g8, 0, none⟩) 2 c8) (.int .i64 x.a)
  have RE := h11.set5 (b := w.heap.size) (by omega) (.int .i64 20) (.int .i64 ((n : Int) + 1)) (stv []) (.slice (some ⟨g8, 0, none⟩) 2 c8) (.int .i64 x.a)
  have ZE := set5k (.int .i64 20) (.int .i64 ((n : Int) + 1)) (stv []) (.slice (some ⟨g8, 0, none⟩) 2 c8) (.int .i64 x.a) Z11
  have SE : Sl _ (Nw w.heap.size) _ _ := (SF.set5 (b := w.heap.size) (by omega) (.int .i64 20) (.int .i64 ((n : Int) + 1)) (stv []) (.slice (some ⟨g8, 0, none⟩) 2 c8) (.int .i64 x.a)).low (by omega)
  obtain ⟨z0, z1, z2, z3, z4, zf⟩ := box5 Z11
  obtain ⟨u0, u1, u2, u3, u4, -⟩ := box5 ZE
  have FIN := C11.fin
  clear ZE SF K11 Z11 h11 A8_11
  go_wp2
  exact bodyPost_ret (v := exV ⟨20, ((n : Int) + 1), [], x.a, ((one x3).snoc x5)⟩ (some ⟨g8, 0, none⟩) c8) (by simp [results, Tryz.results98, go_sem, u0, u1, u2, u3, u4, exV]; try rfl) rfl ⟨_, _, _, _, rfl, SE, RE, KE, FIN⟩
end Go.Proofs.YtojleoionpnjpaaGreatDoor
