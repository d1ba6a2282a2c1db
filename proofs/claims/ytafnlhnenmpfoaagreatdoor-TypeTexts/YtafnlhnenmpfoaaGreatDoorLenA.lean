/- A tree with a part more behind each list: Lent of package isthmuslaw12. -/
import Derived.Test.YtafnlhnenmpfoaaGreatDoorWrqK
namespace Go.Proofs.YtafnlhnenmpfoaaGreatDoor
open Go.ChangeShapes Go.WideShapes Go.ChangeAt Go.RowKit
set_option linter.unusedVariables false
set_option linter.unusedSimpArgs false

set_option maxRecDepth 100000 in
set_option maxHeartbeats 2000000 in
theorem print_q (e : Ex) (ao : Option Addr) (cap : Nat) (w : World) (he : e.fit) (S : SlT w e.kids ao) :
    Calls Tryz.prog 27 #[exV e ao cap] w (PostP w (writA e)) := by
  obtain ⟨w1, hw1⟩ : ∃ w1, w1 = (w.alloc (bxX e ao cap)).alloc (.cells #[.slice none 0 0, .int .i64 0, .int .i64 0, .bool true] 90) := ⟨_, rfl⟩
  obtain ⟨be, hbe⟩ : ∃ be, be = w.heap.size := ⟨_, rfl⟩
  obtain ⟨o1, ho1⟩ : ∃ o1 : Nat → Nat, o1 = fun k => if k = be + 1 then 1 else 0 := ⟨_, rfl⟩
  have B1 : Below be w w1 := by rw [hw1, hbe]; exact ((Below.refl _ w).alloc (Nat.le_refl _) _).alloc (by simp) _
  have E1 : w1.heap[be]? = some (bxX e ao cap) := by
    rw [hw1, hbe]
    exact (Below.heap_alloc _ _ _ (by simp)).trans (heap_alloc_new w _)
  have W1 : w1.heap[be + 1]? = some (.cells #[.slice none 0 0, .int .i64 0, .int .i64 0, .bool true] 90 (0, 0)) := by
    rw [hw1, hbe]
    have := heap_alloc_new (w.alloc (bxX e ao cap)) (.cells #[.slice none 0 0, .int .i64 0, .int .i64 0, .bool true] 90)
    simpa using this
  have L1 : ∀ k, k ≤ be → o1 k = 0 := fun k hk => by rw [ho1]; show (if k = be + 1 then 1 else 0) = 0; rw [if_neg (by omega)]
  have L2 : o1 (be + 1) = 1 := by rw [ho1]; show (if be + 1 = be + 1 then 1 else 0) = 1; rw [if_pos rfl]
  have Q1 : WQ w1 o1 (be + 1) (some ⟨[], 0, 0⟩) := ⟨⟨.slice none 0 0, ⟨W1, L2⟩, Row.nil _ _ _ _ _⟩, by simp, by simp, by simp⟩
  have S1 : Sl w1 (L0 o1) e.kids ao := S.mono (fun i _ hl => B1.block i (by rw [hbe]; exact hl)) B1.size (fun i _ hl => L1 i (by omega))
  have c2 := wpart_all (e.kids.size + 1) e ao cap false (be + 1) _ w1 o1 (Nat.lt_succ_self _) he S1 Q1
  obtain ⟨R, hR⟩ : ∃ R, R = oEx e false (some ⟨[], 0, 0⟩) := ⟨_, rfl⟩
  rw [← hR] at c2
  have HR : Hid (writA e = R.map (·.t)) := by show _ = _; rw [← refA_eq, hR]; rfl
  obtain ⟨W, hW⟩ : ∃ W, W = writA e := ⟨_, rfl⟩
  rw [← hW] at HR ⊢
  obtain ⟨p0, p1, p2, p3, p4, pf⟩ := box5 E1
  rw [exV_out] at c2 ⊢
  clear S ho1 Q1 S1 hR hW
  go_enter Tryz.func27, Tryz.ntmps27
  go_upto_region 2 with fail
  rw [← hw1, ← hbe]
  have HB : Hid (be = w.heap.size) := hbe
  clear hw1 hbe W1
  go_wp2_with fail
  refine c2.mono ?_
  rintro e2 w2 ⟨rfl, o2, Q2, s2⟩
  have B2 : Below be w w2 := below_stepB B1 s2 (fun k hk hi => by rw [L1 k (by omega)] at hi; rcases hi with h | h <;> omega) (by rw [HB.out]; exact Nat.le_refl _)
  have B3 : Hid (Below w.heap.size w w2) := by show Below w.heap.size w w2; rw [← HB.out]; exact B2
  clear c2 s2 B1 B2 L1 L2 p0 p1 p2 p3 p4 pf E1 HB
  cases R with
  | none =>
    obtain ⟨c3, cf, -, -⟩ := Q2.end
    have c3 : w2.cell? ⟨be + 1, 3, none⟩ = some (.bool false) := c3
    have FIN : Hid (W = none) := HR.out
    clear HR Q2
    go_wp2
    go_ret2
    exact ⟨by rw [FIN.out]; rfl, B3.out⟩
  | some s =>
    obtain ⟨c3, cf, -, -⟩ := Q2.end
    have c3 : w2.cell? ⟨be + 1, 3, none⟩ = some (.bool true) := c3
    obtain ⟨⟨v, hb, hr⟩, -⟩ := Q2
    obtain ⟨d0, d1, d2, d3, df⟩ := Blk.cells4 hb
    have F := row_text hr
    obtain ⟨aov, capv, rfl⟩ := hr.form
    have FIN : Hid (W = some s.t) := HR.out
    clear HR hb hr d1 d2 d3
    go_wp2
    go_ret2
    exact ⟨by rw [FIN.out]; rfl, B3.out⟩
set_option maxRecDepth 100000 in
theorem right_q (e : Ex) (ao : Option Addr) (cap : Nat) (w : World) (he : e.fit) (S : SlT w e.kids ao) :
    Calls Tryz.prog 15 #[exV e ao cap] w fun x w' => x = .returned (.bool (writA e).isSome) ∧ Below w.heap.size w w' := by
  have B0 : Below w.heap.size w (w.alloc (bxX e ao cap)) := (Below.refl _ w).alloc (Nat.le_refl _) _
  have E0 : (w.alloc (bxX e ao cap)).heap[w.heap.size]? = some (bxX e ao cap) := heap_alloc_new w _
  have c1 := print_q e ao cap (w.alloc (bxX e ao cap)) he (SlT.below S B0)
  obtain ⟨p0, p1, p2, p3, p4, pf⟩ := box5 E0
  rw [exV_out] at c1 ⊢
  generalize writA e = W at *
  go_enter Tryz.func15, Tryz.ntmps15
  go_wp2_with fail
  refine c1.mono ?_
  rintro e2 w1 ⟨rfl, b1⟩
  have B1 := B0.trans (b1.mono B0.size)
  clear c1 p0 p1 p2 p3 p4 pf E0
  cases W with
  | none =>
    go_wp2
    go_ret
    exact ⟨rfl, B1⟩
  | some t =>
    go_wp2
    go_ret
    exact ⟨rfl, B1⟩
end Go.Proofs.YtafnlhnenmpfoaaGreatDoor
namespace Go.Proofs.YtafnlhnenmpfoaaGreatDoor
open Go.ChangeShapes Go.WideShapes Go.ChangeAt Go.RowKit
set_option linter.unusedVariables false
set_option linter.unusedSimpArgs false

theorem writA_stk {e : Ex} {t : List UInt8} (h : writA e = some t) : e.kids.stk (e.k == 21) := by
  unfold writA at h
  split at h
  · cases h
  · cases hh : hE e 0 with
    | none => rw [hh] at h; cases h
    | some c => exact hE_stk hh
set_option maxRecDepth 100000 in
set_option maxHeartbeats 1000000 in
theorem rcheck_q (e : Ex) (ao : Option Addr) (cap : Nat) (w : World) (hf : e.fit) (S : SlT w e.kids ao) :
    Calls Tryz.prog 14 #[exV e ao cap] w fun x w' => x = .returned (tupT (typA e)) ∧ Below w.heap.size w w' := by
  obtain ⟨T, hT⟩ : ∃ T, T = typA e := ⟨_, rfl⟩
  rw [← hT]
  have HT : Hid (T = typA e) := hT
  clear hT
  have B0 : Below w.heap.size w (w.alloc (.cells #[.int .i64 e.k, .int .i64 e.n, stv e.nm, .slice ao e.kids.len cap, .int .i64 e.a] 25)) := (Below.refl _ w).alloc (Nat.le_refl _) _
  have E0 : (w.alloc (.cells #[.int .i64 e.k, .int .i64 e.n, stv e.nm, .slice ao e.kids.len cap, .int .i64 e.a] 25)).heap[w.heap.size]? = some (.cells #[.int .i64 e.k, .int .i64 e.n, stv e.nm, .slice ao e.kids.len cap, .int .i64 e.a] 25) := heap_alloc_new w _
  have S0 := SlT.below S B0
  rw [exV_out]
  go_enter Tryz.func14, Tryz.ntmps14
  go_upto_region 1 with fail
  generalize w.alloc (.cells #[.int .i64 e.k, .int .i64 e.n, stv e.nm, .slice ao e.kids.len cap, .int .i64 e.a] 25) = w0 at *
  obtain ⟨bx, hbx⟩ : ∃ bx, bx = w.heap.size := ⟨_, rfl⟩
  rw [← hbx] at E0 B0 ⊢
  have HB : Hid (bx = w.heap.size) := hbx
  clear hbx
  obtain ⟨p0, p1, p2, p3, p4, pf⟩ := box5 E0
  have hbx0 := lt_of_block E0
  have c1 := right_q e ao cap w0 hf S0
  rw [exV_out] at c1
  go_wp2_with fail
  refine c1.mono ?_
  rintro x w1 ⟨rfl, b1⟩
  have E1 := (b1.block _ hbx0).trans E0
  have B1 : Below bx w w1 := B0.trans (b1.mono (Nat.le_of_lt hbx0))
  have S1 := SlT.below S0 b1
  clear c1 b1 p0 p1 p2 p3 p4 pf E0 B0 S0 S
  cases hw : writA e with
  | none =>
    have FIN : Hid (T = (0, 122, 0)) := by show T = _; rw [HT.out]; unfold typA; rw [hw]
    simp only [Option.isSome_none]
    clear HT hw
    go_wp2
    refine bodyPost_ret (v := tupT (0, 122, 0)) (by simp [results, Tryz.results14, go_sem]) rfl ⟨by rw [FIN.out], ?_⟩
    rw [← HB.out]
    exact B1
  | some t =>
    obtain ⟨hok, hsz, hset⟩ := writA_ok hf hw
    have hsk := writA_stk hw
    simp only [Option.isSome_some]
    have HT2 : Hid (T = (match chkE e [] with | .inl (er, a) => (0, er, a) | .inr k => (k, 0, 0))) := by
      show T = _
      rw [HT.out]
      unfold typA
      rw [hw]
      simp only
      cases chkE e [] with
      | inl z => obtain ⟨er, a⟩ := z; rfl
      | inr k => rfl
    clear HT hw
    have b2 : Below w1.heap.size w1 (w1.alloc (.cells #[.slice none 0 0, .int .i64 0, .int .i64 0] 54)) := (Below.refl _ w1).alloc (Nat.le_refl _) _
    have W2 : Wk (w1.alloc (.cells #[.slice none 0 0, .int .i64 0, .int .i64 0] 54)) w1.heap.size (.slice none 0 0) none := ⟨heap_alloc_new w1 _, StOk.none⟩
    have E2 := (b2.block _ (lt_of_block E1)).trans E1
    have B2 := B1.trans (b2.mono (Nat.le_of_lt (lt_of_block E1)))
    have S2 : Sl (w1.alloc (.cells #[.slice none 0 0, .int .i64 0, .int .i64 0] 54)) (Nf w1.heap.size) e.kids ao := S1.mono (fun i _ hl => b2.block i hl) b2.size (fun i _ hl => by show i ≠ _; omega)
    have hwb : bx < w1.heap.size := lt_of_block E1
    go_upto_region 5 with fail
    generalize w1.alloc (.cells #[.slice none 0 0, .int .i64 0, .int .i64 0] 54) = w2 at *
    generalize w1.heap.size = wb at *
    obtain ⟨p0, p1, p2, p3, p4, pf⟩ := box5 E2
    have c4 := kind_ok (e.kids.size + 1) e ao cap wb (.slice none 0 0) [] w2 ⟨by omega, hok, hset, hsk, hf.len, hf.sh, by simp; omega⟩ W2 ⟨Nms.nil w2, fun g off n c h => by cases h⟩ S2
    rw [exV_out] at c4
    have hwb2 := lt_of_block W2.blk
    clear b2 E1 B1 S1 S2 W2
    go_wp2_with fail
    refine c4.mono ?_
    rintro x w4 ⟨⟨k', rfl, hk'⟩, W4, K4⟩
    have HZ : Hid (Below bx w w4) := B2.trans (K4.below (Nat.le_of_lt hwb) hwb2)
    clear c4 K4 p0 p1 p2 p3 p4 pf
    obtain ⟨q0, q1, q2, qf⟩ := box3 W4.blk
    cases hc : chkE e [] with
    | inl z =>
      obtain ⟨er, a⟩ := z
      have her := chkE_er hc
      rw [hc] at q1 q2
      simp only [stS, erO, plO] at q1 q2
      have hne : ((er : Int) != 0) = true := by simp; omega
      have FIN : Hid (T = (0, er, a)) := by show T = _; rw [HT2.out, hc]
      clear HT2 hc her hk' W4
      go_wp2_with fail
      go_quiet (fail)
      go_wp2
      refine bodyPost_ret (v := tupT (0, er, a)) (by simp [results, Tryz.results14, go_sem]) rfl ⟨by rw [FIN.out], ?_⟩
      rw [← HB.out]
      exact HZ.out.trans ⟨rfl, rfl, rfl, Nat.le_refl _, fun _ _ => rfl⟩
    | inr k =>
      obtain rfl := hk' k hc
      rw [hc] at q1 q2
      simp only [stS, erO, plO] at q1 q2
      have FIN : Hid (T = (k', 0, 0)) := by show T = _; rw [HT2.out, hc]
      clear HT2 hc hk' W4
      go_wp2
      refine bodyPost_ret (v := tupT (k', 0, 0)) (by simp [results, Tryz.results14, go_sem]) rfl ⟨by rw [FIN.out], ?_⟩
      rw [← HB.out]
      exact HZ.out
end Go.Proofs.YtafnlhnenmpfoaaGreatDoor
namespace Go.Proofs.YtafnlhnenmpfoaaGreatDoor
open Go.ChangeShapes Go.WideShapes Go.ChangeAt Go.RowKit
set_option linter.unusedVariables false
set_option linter.unusedSimpArgs false

/-- Trees in a row; behind each list of kids one more. -/
def LFc (w : World) (P : Nat → Prop) : Fs → List Value → Prop
  | ⟨none⟩, xs => xs = []
  | ⟨some ⟨k, n, nm, a, ks, r⟩⟩, xs => ∃ b cap zs ys, xs = .int .i64 k :: .int .i64 n :: stv nm :: .slice (some ⟨b, 0, none⟩) ks.len cap :: .int .i64 a :: ys ∧
      (P b ∧ b < w.heap.size ∧ ks.len + 1 ≤ cap ∧ cap ≤ maxLen ∧ (∀ j u, zs[j]? = some u → w.cell? ⟨b, 0 + j, none⟩ = some u) ∧ w.cell? ⟨b, ks.len * 5, none⟩ = some (.int .i64 (-7)) ∧ LFc w P ks zs) ∧ LFc w P r ys
/-- A slice of trees with one more behind it. -/
def Sp (w : World) (P : Nat → Prop) (f : Fs) (b cap : Nat) : Prop :=
  ∃ zs, P b ∧ b < w.heap.size ∧ f.len + 1 ≤ cap ∧ cap ≤ maxLen ∧ (∀ j u, zs[j]? = some u → w.cell? ⟨b, 0 + j, none⟩ = some u) ∧ w.cell? ⟨b, f.len * 5, none⟩ = some (.int .i64 (-7)) ∧ LFc w P f zs
theorem LFc.len {w : World} {P : Nat → Prop} : ∀ {f : Fs} {xs : List Value}, LFc w P f xs → xs.length = f.len * 5
  | ⟨none⟩, xs, h => by
    have h : xs = [] := h
    subst h
    rfl
  | ⟨some ⟨k, n, nm, a, ks, r⟩⟩, xs, h => by
    obtain ⟨b, cap, zs, ys, rfl, _, h2⟩ := h
    have := LFc.len h2
    simp only [List.length_cons, Fs.len]
    omega
theorem LFc.mono {w w' : World} {P Q : Nat → Prop} (hb : ∀ k, P k → k < w.heap.size → w'.heap[k]? = w.heap[k]?) (hs : w.heap.size ≤ w'.heap.size) (hq : ∀ k, P k → k < w.heap.size → Q k) : ∀ {f : Fs} {xs : List Value}, LFc w P f xs → LFc w' Q f xs
  | ⟨none⟩, xs, h => h
  | ⟨some ⟨k, n, nm, a, ks, r⟩⟩, xs, h => by
    obtain ⟨b, cap, zs, ys, rfl, ⟨hp, hlt, h1, h2, hc, h7, h3⟩, h4⟩ := h
    exact ⟨b, cap, zs, ys, rfl, ⟨hq b hp hlt, Nat.lt_of_lt_of_le hlt hs, h1, h2, fun j u hu => (World.cell?_of_block (a := ⟨b, 0 + j, none⟩) (hb b hp hlt)).trans (hc j u hu), (World.cell?_of_block (a := ⟨b, ks.len * 5, none⟩) (hb b hp hlt)).trans h7, LFc.mono hb hs hq h3⟩, LFc.mono hb hs hq h4⟩
theorem Sp.mono {w w' : World} {P Q : Nat → Prop} {f : Fs} {b cap : Nat} (hb : ∀ k, P k → k < w.heap.size → w'.heap[k]? = w.heap[k]?) (hs : w.heap.size ≤ w'.heap.size) (hq : ∀ k, P k → k < w.heap.size → Q k) (h : Sp w P f b cap) : Sp w' Q f b cap := by
  obtain ⟨zs, hp, hlt, h1, h2, hc, h7, h3⟩ := h
  exact ⟨zs, hq b hp hlt, Nat.lt_of_lt_of_le hlt hs, h1, h2, fun j u hu => (World.cell?_of_block (a := ⟨b, 0 + j, none⟩) (hb b hp hlt)).trans (hc j u hu), (World.cell?_of_block (a := ⟨b, f.len * 5, none⟩) (hb b hp hlt)).trans h7, h3.mono hb hs hq⟩
theorem LFc.fc {w : World} {P : Nat → Prop} : ∀ {f : Fs} {xs : List Value}, LFc w P f xs → Fc w P f xs
  | ⟨none⟩, xs, h => h
  | ⟨some ⟨k, n, nm, a, ks, r⟩⟩, xs, h => by
    obtain ⟨b, cap, zs, ys, rfl, ⟨hp, hlt, h1, h2, hc, h7, h3⟩, h4⟩ := h
    exact ⟨some ⟨b, 0, none⟩, cap, ys, rfl, .inr ⟨b, 0, zs, rfl, hp, hlt, hc, h3.fc⟩, h4.fc⟩
theorem Sp.sl {w : World} {P : Nat → Prop} {f : Fs} {b cap : Nat} (h : Sp w P f b cap) : SlT w f (some ⟨b, 0, none⟩) := by
  obtain ⟨zs, hp, hlt, h1, h2, hc, h7, h3⟩ := h
  exact (show Sl w P f (some ⟨b, 0, none⟩) from .inr ⟨b, 0, zs, rfl, hp, hlt, hc, h3.fc⟩).all
theorem LFc.app {w : World} {P : Nat → Prop} : ∀ {f g : Fs} {xs ys : List Value}, LFc w P f xs → LFc w P g ys → LFc w P (f.app g) (xs ++ ys)
  | ⟨none⟩, g, xs, ys, h, k => by
    have h : xs = [] := h
    subst h
    exact k
  | ⟨some ⟨i, n, nm, a, ks, r⟩⟩, g, xs, ys, h, k => by
    obtain ⟨b, cap, zs, us, rfl, h1, h2⟩ := h
    exact ⟨b, cap, zs, us ++ ys, rfl, h1, LFc.app h2 k⟩
theorem LFc.one {w : World} {P : Nat → Prop} {e : Ex} {b cap : Nat} (h : Sp w P e.kids b cap) : LFc w P (one e) [.int .i64 e.k, .int .i64 e.n, stv e.nm, .slice (some ⟨b, 0, none⟩) e.kids.len cap, .int .i64 e.a] := by
  obtain ⟨zs, h⟩ := h
  exact ⟨b, cap, zs, [], rfl, h, rfl⟩
theorem LFc.lab {I : Nat → Prop} {w w' : World} {o o' : Nat → Nat} {n0 : Nat} {f : Fs} {xs : List Value} (h : LFc w (N0 n0 o) f xs) (s : Step I w o w' o') (h0 : ¬ I 0) : LFc w' (N0 n0 o') f xs :=
  h.mono (fun i hp hl => s.block i hl (by rw [hp.2]; exact h0)) s.size (fun i hp hl => ⟨hp.1, (s.lab i hl).trans hp.2⟩)
theorem Sp.lab {I : Nat → Prop} {w w' : World} {o o' : Nat → Nat} {n0 b cap : Nat} {f : Fs} (h : Sp w (N0 n0 o) f b cap) (s : Step I w o w' o') (h0 : ¬ I 0) : Sp w' (N0 n0 o') f b cap :=
  h.mono (fun i hp hl => s.block i hl (by rw [hp.2]; exact h0)) s.size (fun i hp hl => ⟨hp.1, (s.lab i hl).trans hp.2⟩)
/-- A slice of such trees that grows, under label 2. -/
def AccT (w : World) (o : Nat → Nat) (n0 : Nat) (acc : Fs) (v : Value) : Prop := ∃ xs, Row w o 2 25 5 v acc.len xs ∧ LFc w (N0 n0 o) acc xs
theorem AccT.step {I : Nat → Prop} {w w' : World} {o o' : Nat → Nat} {n0 : Nat} {acc : Fs} {v : Value} (h : AccT w o n0 acc v) (s : Step I w o w' o') (h0 : ¬ I 0) (h2 : ¬ I 2) : AccT w' o' n0 acc v := by
  obtain ⟨xs, r, f⟩ := h
  exact ⟨xs, r.step s h2, f.lab s h0⟩
theorem AccT.push {w w2 : World} {o o2 : Nat → Nat} {n0 b ce : Nat} {acc : Fs} {xs : List Value} {v2 : Value} {y : Ex} (f : LFc w (N0 n0 o) acc xs) (S : Sp w (N0 n0 o) y.kids b ce) (s : Step (fun x => x = 2) w o w2 o2)
    (r : Row w2 o2 2 25 5 v2 (acc.len + 1) (xs ++ [.int .i64 y.k, .int .i64 y.n, stv y.nm, .slice (some ⟨b, 0, none⟩) y.kids.len ce, .int .i64 y.a])) : AccT w2 o2 n0 (acc.snoc y) v2 :=
  ⟨_, by rw [Fs.len_snoc]; exact r, (f.lab s (by decide)).app (LFc.one (S.lab s (by decide)))⟩
/-- The last one is put behind: the slice is cut again. -/
theorem AccT.last {w w2 : World} {o o2 : Nat → Nat} {n0 g cap : Nat} {acc : Fs} {xs : List Value} (f : LFc w (N0 n0 o) acc xs) (s : Step (fun x => x = 2) w o w2 o2) (ho : ∀ k, k < n0 → o2 k = 0)
    (r : Row w2 o2 2 25 5 (.slice (some ⟨g, 0, none⟩) (acc.len + 1) cap) (acc.len + 1) (xs ++ [.int .i64 (-7), .int .i64 0, .string ⟨#[]⟩, .slice none 0 0, .int .i64 0])) :
    Sp w2 (fun b => n0 ≤ b ∧ (o2 b = 0 ∨ o2 b = 2)) acc g cap ∧ acc.len + 1 ≤ cap := by
  obtain ⟨g', cap', hv, hg, hc1, hc2, hlt, hc, _⟩ := r.pos (by omega)
  simp only [Value.slice.injEq, Option.some.injEq, Addr.mk.injEq, true_and, and_true] at hv
  obtain ⟨rfl, rfl⟩ := hv
  have hl := f.len
  have f2 := f.lab s (by decide)
  refine ⟨⟨xs, ⟨?_, .inr hg⟩, hlt, hc1, hc2, fun j u hu => ?_, ?_, f2.mono (fun _ _ _ => rfl) (Nat.le_refl _) (fun _ hp _ => ⟨hp.1, .inl hp.2⟩)⟩, hc1⟩
  · by_cases hn : n0 ≤ g
    · exact hn
    · have := ho g (by omega)
      omega
  · have hj : j < xs.length := by
      by_cases hj : j < xs.length
      · exact hj
      · rw [List.getElem?_eq_none (by omega)] at hu
        cases hu
    rw [Nat.zero_add, hc j (by omega), List.getElem?_append_left hj]
    exact hu
  · rw [hc (acc.len * 5) (by omega), List.getElem?_append_right (by omega), hl, Nat.sub_self]
    rfl
/-- What Lent answers. -/
def PostL (w : World) (e : Ex) (x : Ending) (w' : World) : Prop := ∃ b cap, x = .returned (exV e (some ⟨b, 0, none⟩) cap) ∧ Sp w' (Nw w.heap.size) e.kids b cap ∧ Below w.heap.size w w'
def LentOk (N : Nat) : Prop := ∀ (e : Ex) (ao : Option Addr) (cap d : Nat) (w : World), e.kids.size < N → e.kids.size ≤ d → d ≤ 1000000000 → e.kids.len ≤ 1000000000 → e.kids.short → SlA w e.kids ao →
  Calls Tryz.prog 16 #[exV e ao cap, .int .i64 (d : Nat)] w (PostL w e)
set_option maxRecDepth 100000 in
set_option maxHeartbeats 2000000 in
theorem lent_step {N : Nat} (IH : LentOk N) : LentOk (N + 1) := by
  intro e ao cap d w hN hdp hd hlen hsh S
  obtain ⟨ii, hii, hzi0, hzi1, hzi2⟩ := info_parts infoExpr
  obtain ⟨w0, hw0⟩ : ∃ w0, w0 = ((w.alloc (.cells #[.int .i64 e.k, .int .i64 e.n, stv e.nm, .slice ao e.kids.len cap, .int .i64 e.a] 25)).alloc (.cells #[.int .i64 0, .int .i64 0, .string ⟨#[]⟩, .slice none 0 0, .int .i64 0] 25)).alloc (.cells #[.int .i64 e.k, .int .i64 e.n, stv e.nm, .slice none 0 0, .int .i64 e.a] 25) := ⟨_, rfl⟩
  have B0 : Below w.heap.size w w0 := by rw [hw0]; exact (((Below.refl _ w).alloc (Nat.le_refl _) _).alloc (by simp) _).alloc (by simp; omega) _
  obtain ⟨o0, ho0⟩ : ∃ o0 : Nat → Nat, o0 = fun k => if k = w.heap.size + 1 + 1 then 1 else if k = w.heap.size + 1 then 3 else 0 := ⟨_, rfl⟩
  have E0 : Blk w0 o0 0 w.heap.size (.cells #[.int .i64 e.k, .int .i64 e.n, stv e.nm, .slice ao e.kids.len cap, .int .i64 e.a] 25) := by
    refine ⟨?_, by rw [ho0]; simp only; rw [if_neg (by omega), if_neg (by omega)]⟩
    rw [hw0]
    exact (Below.heap_alloc _ _ _ (by simp; omega)).trans ((Below.heap_alloc _ _ _ (by simp)).trans (heap_alloc_new w _))
  have Z0 : Blk w0 o0 3 (w.heap.size + 1) (.cells #[.int .i64 0, .int .i64 0, .string ⟨#[]⟩, .slice none 0 0, .int .i64 0] 25) := by
    refine ⟨?_, by rw [ho0]; simp⟩
    rw [hw0]
    refine (Below.heap_alloc _ _ _ (by simp)).trans ?_
    have := heap_alloc_new (w.alloc (.cells #[.int .i64 e.k, .int .i64 e.n, stv e.nm, .slice ao e.kids.len cap, .int .i64 e.a] 25)) (.cells #[.int .i64 0, .int .i64 0, .string ⟨#[]⟩, .slice none 0 0, .int .i64 0] 25)
    simpa using this
  have O0 : Blk w0 o0 1 (w.heap.size + 1 + 1) (.cells #[.int .i64 e.k, .int .i64 e.n, stv e.nm, .slice none 0 0, .int .i64 e.a] 25) := by
    refine ⟨?_, by rw [ho0]; simp⟩
    rw [hw0]
    have := heap_alloc_new ((w.alloc (.cells #[.int .i64 e.k, .int .i64 e.n, stv e.nm, .slice ao e.kids.len cap, .int .i64 e.a] 25)).alloc (.cells #[.int .i64 0, .int .i64 0, .string ⟨#[]⟩, .slice none 0 0, .int .i64 0] 25)) (.cells #[.int .i64 e.k, .int .i64 e.n, stv e.nm, .slice none 0 0, .int .i64 e.a] 25)
    simpa using this
  have L0 : ∀ k, k < w.heap.size → o0 k = 0 := fun k hk => by rw [ho0]; simp only; rw [if_neg (by omega), if_neg (by omega)]
  have A0 : AccT w0 o0 w.heap.size .nil (.slice none 0 0) := ⟨[], Row.nil _ _ _ _ _, rfl⟩
  rw [exV_out]
  go_enter Tryz.func16, Tryz.ntmps16
  go_upto_region 2 with fail
  rw [← hw0]
  clear hw0 ho0
  obtain ⟨n0, hn0⟩ : ∃ n0, n0 = w.heap.size := ⟨_, rfl⟩
  unfold PostL
  rw [← hn0] at E0 Z0 O0 L0 A0 B0 ⊢
  have HB : Hid (n0 = w.heap.size) := hn0
  clear hn0
  go_wp2
  go_loopw [6] (fun v wr => ∃ (done r : Fs) (o : Nat → Nat) (va : Value), Hid (e.kids = done.app r) ∧ v = .int .i64 (done.len : Nat) ∧ Blk wr o 0 n0 (.cells #[.int .i64 e.k, .int .i64 e.n, stv e.nm, .slice ao e.kids.len cap, .int .i64 e.a] 25) ∧ Blk wr o 3 (n0 + 1) (.cells #[.int .i64 0, .int .i64 0, .string ⟨#[]⟩, .slice none 0 0, .int .i64 0] 25) ∧ Blk wr o 1 (n0 + 1 + 1) (.cells #[.int .i64 e.k, .int .i64 e.n, stv e.nm, va, .int .i64 e.a] 25) ∧ AccT wr o n0 done va ∧ Hid (∀ k, k < n0 → o k = 0) ∧ Below n0 w wr) (fun v _ => e.kids.len - (intOf v).toNat)
  case atStart => exact ⟨.nil, e.kids, o0, .slice none 0 0, rfl, by show _ = Value.int .i64 ((0 : Nat) : Int); rfl, E0, Z0, O0, A0, L0, B0⟩
  case round =>
    clear E0 Z0 O0 A0 L0 B0
    obtain ⟨done, r, o, va, hk, rfl, E1, Z1, O1, A1, L1, B1⟩ := hrel
    have hlk : e.kids.len = done.len + r.len := by rw [hk.out, Fs.len_app]
    obtain ⟨p0, p1, p2, p3, p4, pf⟩ := box5 E1.1
    cases r using Fs.on with
    | nil =>
      have hl0 : ¬ (done.len : Int) < (e.kids.len : Int) := by simp only [Fs.len] at hlk; omega
      have hdn : e.kids = done := by rw [hk.out]; clear hk hlk hl0 A1; exact app_nil' done
      have HDN := Lib.hid hdn
      obtain ⟨xs, R1, F1⟩ := A1
      obtain ⟨a8, c8, rfl⟩ := R1.form
      have b1 : done.len + 1 ≤ maxLen := by unfold maxLen; omega
      have b2 : (done.len + 1) * 64 ≤ 140737488355328 := by omega
      have hone : ∀ u ∈ [Value.int .i64 (-7), .int .i64 0, .string ⟨#[]⟩, .slice none 0 0, .int .i64 0], u.oneCell' = true := by intro u hu; simp at hu; rcases hu with rfl | rfl | rfl | rfl | rfl <;> rfl
      have hO := O1.lt
      clear hk hlk hdn
      go_upto_region 7 with fail
      go_cut [51] (fun v wx => ∃ (o9 : Nat → Nat) (g9 c9 : Nat), Blk wx o9 1 (n0 + 1 + 1) (.cells #[.int .i64 e.k, .int .i64 e.n, stv e.nm, .slice (some ⟨g9, 0, none⟩) done.len c9, .int .i64 e.a] 25 (0, 0)) ∧ Blk wx o9 3 (n0 + 1) (.cells #[.int .i64 0, .int .i64 0, .string ⟨#[]⟩, .slice none 0 0, .int .i64 0] 25 (0, 0)) ∧ Sp wx (fun b => n0 ≤ b ∧ (o9 b = 0 ∨ o9 b = 2)) done g9 c9 ∧ Below n0 w wx)
      case first =>
        obtain ⟨t0, t1, t2, t3, t4, tf⟩ := box5 O1.1
        have sA := (boxStep (fun _ => False) wr o (.cells #[.int .i64 (-7), .int .i64 0, .string ⟨#[]⟩, .slice none 0 0, .int .i64 0] 25)).drew
        have LA : Hid (∀ k, k < n0 → newLab wr o 0 k = 0) := fun k hk => by rw [newLab_old (by have := E1.lt; omega)]; exact L1.out k hk
        have RA := R1.step sA id
        have FA := F1.lab sA id
        have OA := O1.step sA id
        have ZA := Z1.step sA id
        have BA := below_stepB B1 sA (fun _ _ => id) (by rw [HB.out]; exact Nat.le_refl _)
        have hnI : (done.len : Int) ≤ (done.len : Int) + 1 := by omega
        go_region_law (refine step_append_lab rfl (.tmp 43) (.tmp 45) 23 rfl 25 ii _ 5 64 Tryz.underlying23 hii hzi0 hzi1 hzi2 rfl (by decide) (newLab wr o 0) 2 _ done.len xs (by simp [Act.eval, Act.put]) RA ⟨wr.heap.size, 0, none⟩ 1 1 [Value.int .i64 (-7), .int .i64 0, .string ⟨#[]⟩, .slice none 0 0, .int .i64 0] (by simp [Act.eval, Act.put]) rfl (new_cells_at wr _ _) hone (by decide) b1 b2 ?_; intro g9 c9 w9 o9 r9 s9; have L9 : ∀ k, k < n0 → o9 k = 0 := fun k hk => (s9.lab k (by have h1 := OA.lt; omega)).trans (LA.out k hk); have SP := AccT.last FA s9 L9 r9; have hc9 : done.len ≤ c9 := (by have := SP.2; omega); have O9 := OA.step s9 (by decide); have Z9 := ZA.step s9 (by decide); have B9 := below_stepB BA s9 (fun k hk => by rw [LA.out k hk]; decide) (by rw [HB.out]; exact Nat.le_refl _); obtain ⟨u0, u1, u2, u3, u4, uf⟩ := box5 O9.1)
        all_goals
          have s10 : Step (fun k => k = 1) w9 o9 (w9.setCell ⟨n0 + 1 + 1, 3, none⟩ (.slice (some ⟨g9, 0, none⟩) done.len c9)) o9 := setStep _ w9 o9 ⟨n0 + 1 + 1, 3, none⟩ _ O9.2
          have O10 := O9.set 3 (.slice (some ⟨g9, 0, none⟩) done.len c9)
          have Z10 := Z9.step s10 (by decide)
          have B10 := below_stepB B9 s10 (fun k hk => by rw [L9 k hk]; decide) (by rw [HB.out]; exact Nat.le_refl _)
          have SP10 := SP.1.mono (fun i hp hl => s10.block i hl (by rcases hp.2 with h | h <;> omega)) s10.size (fun _ h _ => h)
          clear s10 SP O9 Z9 B9 L9 s9 r9 RA FA OA ZA BA LA sA
          go_wp2
          go_meet
          exact ⟨o9, g9, c9, O10, Z10, SP10, B10⟩
      case rest =>
      obtain ⟨o9, g9, c9, O9, Z9, SP, B9⟩ := hcut
      clear E1 Z1 O1 R1 F1 L1 B1
      have SE := SP.mono (w' := ((((wc.setCell ⟨n0 + 1, 0, none⟩ (.int .i64 e.k)).setCell ⟨n0 + 1, 1, none⟩ (.int .i64 e.n)).setCell ⟨n0 + 1, 2, none⟩ (stv e.nm)).setCell ⟨n0 + 1, 3, none⟩ (.slice (some ⟨g9, 0, none⟩) done.len c9)).setCell ⟨n0 + 1, 4, none⟩ (.int .i64 e.a)) (Q := Nw n0) (fun i hp hl => heap_set5 wc (n0 + 1) i _ _ _ _ _ (fun ee => by
        have h2 := Z9.2
        rw [← ee] at h2
        rcases hp.2 with h | h <;> omega)) (by simp) (fun i hp _ => hp.1)
      have BE := ((((B9.setCell (p := ⟨n0 + 1, 0, none⟩) (Nat.le_succ _) (.int .i64 e.k)).setCell (p := ⟨n0 + 1, 1, none⟩) (Nat.le_succ _) (.int .i64 e.n)).setCell (p := ⟨n0 + 1, 2, none⟩) (Nat.le_succ _) (stv e.nm)).setCell (p := ⟨n0 + 1, 3, none⟩) (Nat.le_succ _) (.slice (some ⟨g9, 0, none⟩) done.len c9)).setCell (p := ⟨n0 + 1, 4, none⟩) (Nat.le_succ _) (.int .i64 e.a)
      have ZE := set5k (.int .i64 e.k) (.int .i64 e.n) (stv e.nm) (.slice (some ⟨g9, 0, none⟩) done.len c9) (.int .i64 e.a) Z9.1
      have HU : Hid (∃ wz, wz = ((((wc.setCell ⟨n0 + 1, 0, none⟩ (.int .i64 e.k)).setCell ⟨n0 + 1, 1, none⟩ (.int .i64 e.n)).setCell ⟨n0 + 1, 2, none⟩ (stv e.nm)).setCell ⟨n0 + 1, 3, none⟩ (.slice (some ⟨g9, 0, none⟩) done.len c9)).setCell ⟨n0 + 1, 4, none⟩ (.int .i64 e.a) ∧ wz.cell? ⟨n0 + 1, 0, none⟩ = some (.int .i64 e.k) ∧ wz.cell? ⟨n0 + 1, 1, none⟩ = some (.int .i64 e.n) ∧ wz.cell? ⟨n0 + 1, 2, none⟩ = some (stv e.nm) ∧ wz.cell? ⟨n0 + 1, 3, none⟩ = some (.slice (some ⟨g9, 0, none⟩) done.len c9) ∧ wz.cell? ⟨n0 + 1, 4, none⟩ = some (.int .i64 e.a) ∧ Sp wz (Nw n0) done g9 c9 ∧ Below n0 w wz) := by
        obtain ⟨u0, u1, u2, u3, u4, -⟩ := box5 ZE
        exact ⟨_, rfl, u0, u1, u2, u3, u4, SE, BE⟩
      obtain ⟨u0, u1, u2, u3, u4, uf⟩ := box5 O9.1
      obtain ⟨z0, z1, z2, z3, z4, zf⟩ := box5 Z9.1
      clear SE BE ZE O9 Z9 SP B9
      go_wp2
      obtain ⟨wz, hwz, v0, v1, v2, v3, v4, SZ, BZ⟩ := HU.out
      clear HU
      rw [← hwz]
      clear hwz
      refine bodyPost_ret (v := exV e (some ⟨g9, 0, none⟩) c9) (by simp [results, Tryz.results16, go_sem, v0, v1, v2, v3, v4, exV, HDN.out]) rfl ⟨g9, c9, rfl, by rw [HDN.out, ← HB.out]; exact SZ, by rw [← HB.out]; exact BZ⟩
    | cons kk kn km ka kks kr =>
      have hl0 : (done.len : Int) < (e.kids.len : Int) := by simp only [Fs.len] at hlk; omega
      have hd0 : 0 < d := by have : e.kids.size = done.size + (kks.size + kr.size + 1) := by rw [hk.out, Fs.size_app]; rfl
                             omega
      have hdI : (0 : Int) < (d : Int) := by omega
      have hl1 : done.len < e.kids.len := by omega
      have hsz : e.kids.size = done.size + (kks.size + kr.size + 1) := by rw [hk.out, Fs.size_app]; rfl
      have hsk : (Fs.cons kk kn km ka kks kr).short := Fs.app_short (by rw [← hk.out]; exact hsh)
      have hn0 : n0 ≤ wr.heap.size := by have := E1.lt; omega
      obtain ⟨b, off, ak, ck, hao, lb1, -, x0, x1, x2, x3, x4, SK⟩ := Sl.kidQ (by rw [← hk.out]; exact SlA.below S (by rw [← HB.out]; exact B1))
      subst hao
      obtain ⟨y, hy⟩ : ∃ y : Ex, y = ⟨kk, kn, km, ka, kks⟩ := ⟨_, rfl⟩
      have hc0 := IH ⟨kk, kn, km, ka, kks⟩ ak ck (d - 1) wr (by show kks.size < N; omega) (by show kks.size ≤ d - 1; omega) (by omega) hsk.2.1 hsk.2.2.1 SK
      have hc : Calls Tryz.prog 16 #[.agg #[.int .i64 kk, .int .i64 kn, stv km, .slice ak kks.len ck, .int .i64 ka], .int .i64 ((d : Int) - 1)] wr (PostL wr y) := by rw [hy, show (d : Int) - 1 = ((d - 1 : Nat) : Int) by omega]; exact hc0
      clear hc0
      have hk2 : Hid (e.kids = (done.snoc ⟨kk, kn, km, ka, kks⟩).app kr) := by show e.kids = _; rw [hk.out]; unfold Fs.snoc; rw [Fs.app_assoc]; rfl
      have HS : Hid (done.snoc ⟨kk, kn, km, ka, kks⟩ = done.snoc y) := by show _ = _; rw [hy]
      have hl2 : (done.len : Int) + 1 = ((done.snoc ⟨kk, kn, km, ka, kks⟩).len : Nat) := by rw [Fs.len_snoc]; rfl
      clear hlk hsz hsk hy SK
      go_wp2_with fail
      refine hc.mono ?_
      rintro x w6 ⟨bk6, ck6, rfl, S6, b6⟩
      have s6 : Step (fun _ => False) wr o w6 (newLab wr o 0) := ((Step.refl _ wr o).labelled 0).trans (Step.ofB (newLab wr o 0) b6)
      have T6 : Sp w6 (N0 n0 (newLab wr o 0)) y.kids bk6 ck6 := S6.mono (fun _ _ _ => rfl) (Nat.le_refl _) (fun i hp hl => ⟨Nat.le_trans hn0 hp, newLab_new hp⟩)
      have L6 : Hid (∀ k, k < n0 → newLab wr o 0 k = 0) := fun k hk => by rw [newLab_old (by omega)]; exact L1.out k hk
      have E6 := E1.step s6 id
      have Z6 := Z1.step s6 id
      have O6 := O1.step s6 id
      have A6 := A1.step s6 id id
      have B6 := below_stepB B1 s6 (fun _ _ => id) (by rw [HB.out]; exact Nat.le_refl _)
      generalize newLab wr o 0 = o6 at *
      clear hc S6 b6 s6 E1 Z1 O1 A1 B1 L1 x0 x1 x2 x3 x4 p0 p1 p2 p3 p4 pf
      have s7 := boxStep (fun _ => False) w6 o6 (.cells #[.int .i64 y.k, .int .i64 y.n, stv y.nm, .slice (some ⟨bk6, 0, none⟩) y.kids.len ck6, .int .i64 y.a] 25)
      have K7 := boxBlk w6 o6 #[.int .i64 y.k, .int .i64 y.n, stv y.nm, .slice (some ⟨bk6, 0, none⟩) y.kids.len ck6, .int .i64 y.a] 25
      have T7 := T6.lab s7 id
      have hs6 : n0 ≤ w6.heap.size := by have := E6.lt; omega
      have L7 : Hid (∀ k, k < n0 → newLab w6 o6 0 k = 0) := fun k hk => by rw [newLab_old (by omega)]; exact L6.out k hk
      have E7 := E6.step s7 id
      have Z7 := Z6.step s7 id
      have O7 := O6.step s7 id
      have A7 := A6.step s7 id id
      have B7 := below_stepB B6 s7 (fun _ _ => id) (by rw [HB.out]; exact Nat.le_refl _)
      rw [exV_out]
      go_upto_region 6 with fail
      generalize newLab w6 o6 0 = o7 at *
      generalize w6.alloc (.cells #[.int .i64 y.k, .int .i64 y.n, stv y.nm, .slice (some ⟨bk6, 0, none⟩) y.kids.len ck6, .int .i64 y.a] 25) = w7 at *
      generalize w6.heap.size = bk at *
      clear s7 T6 E6 Z6 O6 A6 B6 L6
      obtain ⟨p0, p1, p2, p3, p4, pf⟩ := box5 O7.1
      obtain ⟨q0, q1, q2, q3, q4, qf⟩ := box5 K7.1
      have s8 := boxStep (fun _ => False) w7 o7 (.cells #[.int .i64 y.k, .int .i64 y.n, stv y.nm, .slice (some ⟨bk6, 0, none⟩) y.kids.len ck6, .int .i64 y.a] 25)
      have T8 := T7.lab s8 id
      have L8 : Hid (∀ k, k < n0 → newLab w7 o7 0 k = 0) := fun k hk => by rw [newLab_old (by have := E7.lt; omega)]; exact L7.out k hk
      have E8 := E7.step s8 id
      have Z8 := Z7.step s8 id
      have O8 := O7.step s8 id
      have A8 := A7.step s8 id id
      have B8 := below_stepB B7 s8 (fun _ _ => id) (by rw [HB.out]; exact Nat.le_refl _)
      obtain ⟨xs, R8, F8⟩ := A8
      obtain ⟨a8, c8, rfl⟩ := R8.form
      have b1 : done.len + 1 ≤ maxLen := by unfold maxLen; omega
      have b2 : (done.len + 1) * 64 ≤ 140737488355328 := by omega
      have hone : ∀ u ∈ [Value.int .i64 y.k, .int .i64 y.n, stv y.nm, .slice (some ⟨bk6, 0, none⟩) y.kids.len ck6, .int .i64 y.a], u.oneCell' = true := by intro u hu; simp at hu; rcases hu with rfl | rfl | rfl | rfl | rfl <;> rfl
      clear E7 Z7 O7 A7 B7 L7 T7 s8
      go_wp2_with (first | (at_builtin; refine wpList_append_lab rfl (.tmp 37) (.tmp 39) 23 rfl 25 ii _ 5 64 Tryz.underlying23 hii hzi0 hzi1 hzi2 rfl (by decide) (newLab w7 o7 0) 2 _ done.len xs rfl R8 ⟨w7.heap.size, 0, none⟩ 1 1 [Value.int .i64 y.k, .int .i64 y.n, stv y.nm, .slice (some ⟨bk6, 0, none⟩) y.kids.len ck6, .int .i64 y.a] rfl rfl (new_cells_at w7 _ _) hone (by decide) b1 b2 ?_) | go_in)
      intro g9 c9 w9 o9 r9 s9
      have A9 : AccT w9 o9 n0 (done.snoc y) (.slice (some ⟨g9, 0, none⟩) (done.len + 1) c9) := AccT.push F8 T8 s9 r9
      have E9 := E8.step s9 (by decide)
      have Z9 := Z8.step s9 (by decide)
      have O9 := O8.step s9 (by decide)
      have L9 : Hid (∀ k, k < n0 → o9 k = 0) := fun k hk => (s9.lab k (by have := E8.lt; omega)).trans (L8.out k hk)
      have B9 := below_stepB B8 s9 (fun k hk => by rw [L8.out k hk]; decide) (by rw [HB.out]; exact Nat.le_refl _)
      have s10 : Step (fun k => k = 1) w9 o9 (w9.setCell ⟨n0 + 1 + 1, 3, none⟩ (.slice (some ⟨g9, 0, none⟩) (done.len + 1) c9)) o9 := setStep _ w9 o9 ⟨n0 + 1 + 1, 3, none⟩ _ O9.2
      have A10 := A9.step s10 (by decide) (by decide)
      have E10 := E9.step s10 (by decide)
      have Z10 := Z9.step s10 (by decide)
      have O10 := O9.set 3 (.slice (some ⟨g9, 0, none⟩) (done.len + 1) c9)
      have B10 := below_stepB B9 s10 (fun k hk => by rw [L9.out k hk]; decide) (by rw [HB.out]; exact Nat.le_refl _)
      obtain ⟨t0, t1, t2, t3, t4, tf⟩ := box5 O9.1
      rw [← HS.out] at A10
      clear A9 E9 Z9 O9 B9 s10 E8 Z8 O8 B8 L8 T8 R8 F8 r9 s9 p0 p1 p2 p3 p4 pf q0 q1 q2 q3 q4 qf hk HS K7
      go_wp2
      go_roundw
      case rel => exact ⟨_, kr, o9, _, hk2, by rw [← hl2], E10, Z10, O10, A10, L9, B10⟩
      case measure => simp [intOf]; omega
theorem lent_ok : ∀ N, LentOk N -- 16
  | 0 => fun e ao cap d w h => absurd h (Nat.not_lt_zero _)
  | N + 1 => lent_step (lent_ok N)
end Go.Proofs.YtafnlhnenmpfoaaGreatDoor
