/- The document's own reader: its state, with an error or without; what goes over tokens. -/
import Derived.Test.YtafnlhnenmpfoaaDoorTypZ
namespace Go.Proofs.YtafnlhnenmpfoaaDoor
open Go.ChangeShapes Go.WideShapes Go.ChangeAt Go.RowKit
set_option linter.unusedVariables false
set_option linter.unusedSimpArgs false

abbrev tupT (t : Int × Nat × Int) : Value := .tuple #[.int .i64 t.1, .int .i64 (t.2.1 : Nat), .int .i64 t.2.2]
theorem writA_ok {e : Ex} (hf : e.fit) {t : List UInt8} (h : writA e = some t) : e.okA ∧ e.kids.size ≤ 2000 ∧ isSetK e.k = false := by
  unfold writA at h
  by_cases hs : isSetK e.k = true
  · rw [if_pos hs] at h; cases h
  · rw [if_neg hs] at h
    cases hh : hE e 0 with
    | none => rw [hh] at h; cases h
    | some c =>
      obtain ⟨h1, h2, h3⟩ := hE_ok hf hh
      exact ⟨h1, by omega, by simpa using hs⟩
set_option maxRecDepth 100000 in
set_option maxHeartbeats 1000000 in
theorem tcheck_r (e : Ex) (ao : Option Addr) (cap : Nat) (w : World) (hf : e.fit) (FX : FixT w) (S : SlT w e.kids ao) :
    Calls Tryd.prog 10 #[exV e ao cap] w fun x w' => x = .returned (tupT (typA e)) ∧ Below w.heap.size w w' := by
  obtain ⟨T, hT⟩ : ∃ T, T = typA e := ⟨_, rfl⟩
  rw [← hT]
  have HT : Hid (T = typA e) := hT
  clear hT
  have B0 : Below w.heap.size w (w.alloc (.cells #[.int .i64 e.k, .int .i64 e.n, stv e.nm, .slice ao e.kids.len cap, .int .i64 e.a] 24)) := (Below.refl _ w).alloc (Nat.le_refl _) _
  have E0 : (w.alloc (.cells #[.int .i64 e.k, .int .i64 e.n, stv e.nm, .slice ao e.kids.len cap, .int .i64 e.a] 24)).heap[w.heap.size]? = some (.cells #[.int .i64 e.k, .int .i64 e.n, stv e.nm, .slice ao e.kids.len cap, .int .i64 e.a] 24) := heap_alloc_new w _
  have S0 := SlT.below S B0
  have FX0 := FX.below B0
  rw [exV_out]
  go_enter Tryd.func10, Tryd.ntmps10
  go_upto_region 1 with fail
  generalize w.alloc (.cells #[.int .i64 e.k, .int .i64 e.n, stv e.nm, .slice ao e.kids.len cap, .int .i64 e.a] 24) = w0 at *
  obtain ⟨bx, hbx⟩ : ∃ bx, bx = w.heap.size := ⟨_, rfl⟩
  rw [← hbx] at E0 B0 ⊢
  have HB : Hid (bx = w.heap.size) := hbx
  clear hbx
  obtain ⟨p0, p1, p2, p3, p4, pf⟩ := box5 E0
  have hbx0 := lt_of_block E0
  have c1 := right_r e ao cap w0 hf FX0 S0
  rw [exV_out] at c1
  go_wp2_with fail
  refine c1.mono ?_
  rintro x w1 ⟨rfl, b1⟩
  have E1 := (b1.block _ hbx0).trans E0
  have B1 : Below bx w w1 := B0.trans (b1.mono (Nat.le_of_lt hbx0))
  have S1 := SlT.below S0 b1
  clear c1 b1 p0 p1 p2 p3 p4 pf E0 B0 S0 FX0 FX S
  cases hw : writA e with
  | none =>
    have FIN : Hid (T = (0, 122, 0)) := by show T = _; rw [HT.out]; unfold typA; rw [hw]
    simp only [Option.isSome_none]
    clear HT hw
    go_wp2
    refine bodyPost_ret (v := tupT (0, 122, 0)) (by simp [results, Tryd.results10, go_sem]) rfl ⟨by rw [FIN.out], ?_⟩
    rw [← HB.out]
    exact B1
  | some t =>
    obtain ⟨hok, hsz, -⟩ := writA_ok hf hw
    simp only [Option.isSome_some]
    have HT2 : Hid (tupT T = tupR (chkE e [])) := by
      show tupT T = _
      rw [HT.out]
      unfold typA
      rw [hw]
      simp only
      cases chkE e [] with
      | inl z => obtain ⟨er, a⟩ := z; rfl
      | inr k => rfl
    clear HT hw
    go_wp2_with fail
    refine (rules_c w1).mono ?_
    rintro x w2 ⟨g, rfl, R2, b2⟩
    have E2 := (b2.block _ (lt_of_block E1)).trans E1
    have B2 : Below bx w w2 := B1.trans (b2.mono (Nat.le_of_lt (lt_of_block E1)))
    have S2 := SlT.below S1 b2
    clear b2 E1 B1 S1
    have b3 : Below w2.heap.size w2 (w2.alloc (.cells #[.slice (some ⟨g, 0, none⟩) 26 26] 41)) := (Below.refl _ w2).alloc (Nat.le_refl _) _
    have C3 : (w2.alloc (.cells #[.slice (some ⟨g, 0, none⟩) 26 26] 41)).heap[w2.heap.size]? = some (.cells #[.slice (some ⟨g, 0, none⟩) 26 26] 41) := heap_alloc_new w2 _
    have E3 := (b3.block _ (lt_of_block E2)).trans E2
    have B3 := B2.trans (b3.mono (Nat.le_of_lt (lt_of_block E2)))
    have S3 := SlT.below S2 b3
    have R3 := R2.below b3
    go_upto_region 4 with fail
    generalize w2.alloc (.cells #[.slice (some ⟨g, 0, none⟩) 26 26] 41) = w3 at *
    generalize w2.heap.size = cb at *
    obtain ⟨p0, p1, p2, p3, p4, pf⟩ := box5 E3
    have pc := box1 C3
    have c4 := check_ok (e.kids.size + 1) e ao cap g (.slice none 0 0) [] w3 (by omega) hok hf.len hf.sh (by simp; omega) R3 (Nms.nil w3) S3
    rw [exV_out] at c4
    clear b3 E2 B2 S2 R2 R3 S3
    go_wp2_with fail
    refine c4.mono ?_
    rintro x w4 ⟨rfl, b4⟩
    have HZ : Hid (Below bx w w4) := B3.trans (b4.mono (Nat.le_of_lt (lt_of_block E3)))
    clear c4 b4
    generalize chkE e [] = z at *
    go_wp2
    refine bodyPost_ret (v := tupR z) (by simp [results, Tryd.results10, go_sem]) rfl ⟨by rw [HT2.out], ?_⟩
    rw [← HB.out]
    exact HZ.out
end Go.Proofs.YtafnlhnenmpfoaaDoor
namespace Go.Proofs.YtafnlhnenmpfoaaDoor
open Go.ChangeShapes Go.WideShapes Go.ChangeAt Go.RowKit
set_option linter.unusedVariables false
set_option linter.unusedSimpArgs false

/-- The reader in memory: tokens, the place among them, what is open, the error and its place. -/
def Rq (w : World) (rb i : Nat) (o q : Int) (er pl : Nat) (all : List Tk) : Prop :=
  ∃ g cap, w.heap[rb]? = some (.cells #[.slice (some ⟨g, 0, none⟩) all.length cap, .int .i64 (i : Nat), .int .i64 o, .int .i64 q, .int .i64 (er : Nat), .int .i64 (pl : Nat)] 51 (0, 0)) ∧ g < rb ∧ (∀ j u, (tcells all)[j]? = some u → w.cell? ⟨g, j, none⟩ = some u) ∧ all.length ≤ 3000 ∧ all.length ≤ cap ∧ cap ≤ maxLen
theorem Rq.lt {w : World} {rb i : Nat} {o q : Int} {er pl : Nat} {all : List Tk} (h : Rq w rb i o q er pl all) : rb < w.heap.size := by
  obtain ⟨g, cap, h1, _⟩ := h
  exact lt_of_block h1
theorem Rq.below {w w' : World} {rb i : Nat} {o q : Int} {er pl : Nat} {all : List Tk} (h : Rq w rb i o q er pl all) (b : Below w.heap.size w w') : Rq w' rb i o q er pl all := by
  have hlt := h.lt
  obtain ⟨g, cap, h1, h2, h3, h4⟩ := h
  exact ⟨g, cap, (b.block rb hlt).trans h1, h2, fun j u hu => (b.cell (p := ⟨g, j, none⟩) (show g < w.heap.size by omega)).trans (h3 j u hu), h4⟩
/-- What is read of the reader and its next token. -/
theorem Rq.next {w : World} {rb i : Nat} {o q : Int} {er pl : Nat} {all : List Tk} {x : Tk} (h : Rq w rb i o q er pl all) (hx : all[i]? = some x) : ∃ g cap L, g < rb ∧ i < L ∧ L ≤ cap ∧ cap ≤ maxLen ∧ L ≤ 3000 ∧ (w.cell? ⟨rb, 0, none⟩ = some (.slice (some ⟨g, 0, none⟩) L cap) ∧ w.cell? ⟨rb, 1, none⟩ = some (.int .i64 (i : Nat)) ∧ w.cell? ⟨g, i * 4, none⟩ = some (.int .i64 (x.k : Nat)) ∧ w.cell? ⟨g, i * 4 + 1, none⟩ = some (.int .i64 x.n) ∧ w.cell? ⟨g, i * 4 + 2, none⟩ = some (stv x.t) ∧ w.cell? ⟨g, i * 4 + 3, none⟩ = some (.int .i64 (x.a : Nat))) ∧ w.cell? ⟨rb, 2, none⟩ = some (.int .i64 o) ∧ w.cell? ⟨rb, 3, none⟩ = some (.int .i64 q) ∧ w.cell? ⟨rb, 4, none⟩ = some (.int .i64 (er : Nat)) ∧ w.cell? ⟨rb, 5, none⟩ = some (.int .i64 (pl : Nat)) ∧ (∀ j, w.frozen? ⟨rb, j, none⟩ = false) := by
  obtain ⟨g, cap, h1, h2, h3, h4, h5, h6⟩ := h
  have hi : i < all.length := by
    by_cases hi : i < all.length
    · exact hi
    · rw [List.getElem?_eq_none (by omega)] at hx; cases hx
  obtain ⟨t0, t1, t2, t3⟩ := tkcells_at all i x hx
  refine ⟨g, cap, all.length, h2, hi, h5, h6, h4, ⟨?_, ?_, h3 _ _ t0, h3 _ _ t1, h3 _ _ t2, h3 _ _ t3⟩, ?_, ?_, ?_, ?_, fun j => frozen_of_row w rb j _ _ h1⟩
  all_goals simp [cell_of_row w rb _ _ _ (0, 0) h1]
/-- A field of the reader is written. -/
theorem Rq.set {w : World} {rb i : Nat} {o q : Int} {er pl : Nat} {all : List Tk} (h : Rq w rb i o q er pl all) :
    (∀ i' : Nat, Rq (w.setCell ⟨rb, 1, none⟩ (.int .i64 (i' : Nat))) rb i' o q er pl all) ∧ (∀ o' : Int, Rq (w.setCell ⟨rb, 2, none⟩ (.int .i64 o')) rb i o' q er pl all) ∧ (∀ q' : Int, Rq (w.setCell ⟨rb, 3, none⟩ (.int .i64 q')) rb i o q' er pl all) ∧ (∀ er' : Nat, Rq (w.setCell ⟨rb, 4, none⟩ (.int .i64 (er' : Nat))) rb i o q er' pl all) ∧ (∀ pl' : Nat, Rq (w.setCell ⟨rb, 5, none⟩ (.int .i64 (pl' : Nat))) rb i o q er pl' all) := by
  obtain ⟨g, cap, h1, h2, h3, h4⟩ := h
  have hB : Blk w (fun _ => 0) 0 rb (.cells #[.slice (some ⟨g, 0, none⟩) all.length cap, .int .i64 (i : Nat), .int .i64 o, .int .i64 q, .int .i64 (er : Nat), .int .i64 (pl : Nat)] 51 (0, 0)) := ⟨h1, rfl⟩
  have hc : ∀ (k : Nat) (v : Value) j u, (tcells all)[j]? = some u → (w.setCell ⟨rb, k, none⟩ v).cell? ⟨g, j, none⟩ = some u := fun k v j u hu => (World.cell?_of_block (a := ⟨g, j, none⟩) (heap_setCell_other w ⟨rb, k, none⟩ g v (show g ≠ rb by omega))).trans (h3 j u hu)
  exact ⟨fun i' => ⟨g, cap, (hB.set 1 _).1, h2, hc 1 _, h4⟩, fun o' => ⟨g, cap, (hB.set 2 _).1, h2, hc 2 _, h4⟩, fun q' => ⟨g, cap, (hB.set 3 _).1, h2, hc 3 _, h4⟩, fun er' => ⟨g, cap, (hB.set 4 _).1, h2, hc 4 _, h4⟩, fun pl' => ⟨g, cap, (hB.set 5 _).1, h2, hc 5 _, h4⟩⟩
theorem Keep.at {rb : Nat} (w : World) (k : Nat) (v : Value) : Keep rb w (w.setCell ⟨rb, k, none⟩ v) := (Keep.refl rb w).set ⟨rb, k, none⟩ v (.inr rfl)
theorem two_alloc (w : World) (o1 : Obj) : (w.alloc o1).drew.heap[w.heap.size]? = some o1 ∧ Below w.heap.size w (w.alloc o1).drew := ⟨heap_alloc_new w _, ((Below.refl _ w).alloc (Nat.le_refl _) _).drew⟩
set_option maxRecDepth 100000 in
set_option maxHeartbeats 1000000 in
theorem is_q {w : World} {rb i : Nat} {o q : Int} {er pl : Nat} {all : List Tk} {x : Tk} (s : List UInt8) (h : Rq w rb i o q er pl all) (hx : all[i]? = some x) :
    Calls Tryd.prog 80 #[.pointer (some ⟨rb, 0, none⟩), stv s] w fun e w' => e = .returned (.bool ((er == 0) && ((x.k == 3 || x.k == 4) && x.t == s))) ∧ Below w.heap.size w w' := by
  obtain ⟨B, hB⟩ : ∃ B, B = ((er == 0) && ((x.k == 3 || x.k == 4) && x.t == s)) := ⟨_, rfl⟩
  rw [← hB]
  have HB : Hid (B = ((er == 0) && ((x.k == 3 || x.k == 4) && x.t == s))) := hB
  clear hB
  obtain ⟨g, cap, L, hg, hi, hc, hm, hL, ⟨c0, c1, t0, t1, t2, t3⟩, c2, c3, c4, c5, hf⟩ := h.next hx
  have hrb := h.lt
  have bz : Below w.heap.size w (w.alloc (.cells #[.int .i64 0, .int .i64 0, .string ⟨#[]⟩, .int .i64 0] 54)) := (Below.refl _ w).alloc (Nat.le_refl _) _
  have d0 := (bz.cell (p := ⟨rb, 0, none⟩) hrb).trans c0
  have d1 := (bz.cell (p := ⟨rb, 1, none⟩) hrb).trans c1
  have hgs : g < w.heap.size := by omega
  have u0 := (bz.cell (p := ⟨g, i * 4, none⟩) hgs).trans t0
  have u1 := (bz.cell (p := ⟨g, i * 4 + 1, none⟩) hgs).trans t1
  have u2 := (bz.cell (p := ⟨g, i * 4 + 2, none⟩) hgs).trans t2
  have u3 := (bz.cell (p := ⟨g, i * 4 + 3, none⟩) hgs).trans t3
  have hmm : cap ≤ 9223372036854775807 := hm
  have hiI : (i : Int) < (L : Int) := by omega
  have HX : Hid (∀ wx, Below w.heap.size w wx → wx.cell? ⟨rb, 4, none⟩ = some (.int .i64 (er : Nat))) := fun wx b => (b.cell (p := ⟨rb, 4, none⟩) hrb).trans c4
  clear h bz hm
  go_enter Tryd.func80, Tryd.ntmps80
  go_upto_region 1 with fail
  go_cut [5] (fun v wx => ∃ bt, v = .pointer (some ⟨bt, 0, none⟩) ∧ wx.heap[bt]? = some (.cells #[.int .i64 (x.k : Nat), .int .i64 x.n, stv x.t, .int .i64 (x.a : Nat)] 54) ∧ Below w.heap.size w wx)
  case first =>
    have h2 := two_alloc w (.cells #[.int .i64 (x.k : Nat), .int .i64 x.n, stv x.t, .int .i64 (x.a : Nat)] 54)
    go_region
    all_goals
      go_wp2
      go_meet
      exact ⟨_, rfl, h2.1, h2.2⟩
  case rest =>
  obtain ⟨bt, rfl, hT, B1⟩ := hcut
  obtain ⟨p0, p1, p2, p3, -⟩ := Blk.cells4 (o := fun _ => 0) (i := 0) ⟨hT, rfl⟩
  have e4 := HX.out _ B1
  clear c0 c1 t0 t1 t2 t3 d0 d1 u0 u1 u2 u3 c2 c3 c4 c5 hT HX
  by_cases h0 : er = 0
  · subst h0
    by_cases h3 : x.k = 3
    · have b3 : ((x.k : Int) == 3) = true := by simp [h3]
      have b4 : Hid (B = (x.t == s)) := by show B = _; rw [HB.out]; simp [h3]
      clear h3 HB
      go_wp2
      go_ret
      exact ⟨by rw [b4.out]; simp, B1⟩
    · have b3 : ((x.k : Int) == 3) = false := by simp; omega
      by_cases h4 : x.k = 4
      · have b4 : ((x.k : Int) == 4) = true := by simp [h4]
        have b5 : Hid (B = (x.t == s)) := by show B = _; rw [HB.out]; simp [h4]
        clear h3 h4 HB
        go_wp2
        go_ret
        exact ⟨by rw [b5.out]; simp, B1⟩
      · have b4 : ((x.k : Int) == 4) = false := by simp; omega
        have b5 : Hid (B = false) := by show B = _; rw [HB.out]; simp [h3, h4]
        clear h3 h4 HB
        go_wp2
        go_ret
        exact ⟨by rw [b5.out]; rfl, B1⟩
  · have b0 : ((er : Int) == 0) = false := by simp; omega
    have b1 : Hid (B = false) := by show B = _; rw [HB.out]; simp [h0]
    clear h0 HB
    go_wp2
    go_ret
    exact ⟨by rw [b1.out]; rfl, B1⟩
end Go.Proofs.YtafnlhnenmpfoaaDoor
namespace Go.Proofs.YtafnlhnenmpfoaaDoor
open Go.ChangeShapes Go.WideShapes Go.ChangeAt Go.RowKit
set_option linter.unusedVariables false
set_option linter.unusedSimpArgs false

/-- A word or a sign is told by its text alone. -/
def TokI (x : Tk) : Prop := ∀ s : List UInt8, s ≠ [] → nameB s = false → ((x.k == 3 || x.k == 4) && x.t == s) = (x.t == s)
/-- An error and its place, or the tokens that come next. -/
abbrev Sq := Sum (Nat × Nat) (List Tk)
def QS (w : World) (rb : Nat) (all : List Tk) (o q : Nat) : Sq → Prop
  | .inl (er, a) => ∃ (i : Nat) (o' q' : Int), Rq w rb i o' q' er a all ∧ i < all.length ∧ er ≠ 0
  | .inr ts => ∃ (i pl : Nat), Rq w rb i (o : Nat) (q : Nat) 0 pl all ∧ all.drop i = ts ∧ WFT ts ∧ o ≤ 64 ∧ q ≤ 4
def stp {α : Type} : Rs α → Sq
  | ⟨none⟩ => .inl (0, 0)
  | ⟨some (.inl (e, a))⟩ => .inl (e, a)
  | ⟨some (.inr (_, t))⟩ => .inr t
def onw {α : Type} (f : List Tk → Rs α) : Sq → Sq
  | .inl ea => .inl ea
  | .inr ts => stp (f ts)
def isS (s : List UInt8) : Sq → Bool
  | .inl _ => false
  | .inr [] => false
  | .inr (x :: _) => x.t == s
def failS (e : Nat) : Sq → Sq
  | .inl ea => .inl ea
  | .inr [] => .inl (0, 0)
  | .inr (x :: _) => .inl (e, x.a)
theorem QS.below {w w' : World} {rb o q : Nat} {all : List Tk} {st : Sq} (h : QS w rb all o q st) (b : Below w.heap.size w w') : QS w' rb all o q st := by
  match st, h with
  | .inl (er, a), ⟨i, o', q', h1, h2⟩ => exact ⟨i, o', q', h1.below b, h2⟩
  | .inr ts, ⟨i, pl, h1, h2⟩ => exact ⟨i, pl, h1.below b, h2⟩
theorem QS.lt {w : World} {rb o q : Nat} {all : List Tk} {st : Sq} (h : QS w rb all o q st) : rb < w.heap.size := by
  match st, h with
  | .inl (er, a), ⟨i, o', q', h1, h2⟩ => exact h1.lt
  | .inr ts, ⟨i, pl, h1, h2⟩ => exact h1.lt
theorem dropQ {all : List Tk} {i : Nat} {x : Tk} {r : List Tk} (h : all.drop i = x :: r) : all[i]? = some x ∧ all.drop (i + 1) = r ∧ x ∈ all := by
  have h1 : (all.drop i)[0]? = some x := by rw [h]; rfl
  rw [List.getElem?_drop] at h1
  have h2 : (all.drop i).tail = r := by rw [h]; rfl
  rw [List.tail_drop] at h2
  exact ⟨by simpa using h1, h2, List.mem_of_mem_drop (i := i) (by rw [h]; exact List.mem_cons_self)⟩
set_option maxRecDepth 100000 in
set_option maxHeartbeats 1000000 in
theorem fails_q {w : World} {rb i : Nat} {o q : Int} {pl : Nat} {all : List Tk} {x : Tk} (e : Nat) (h : Rq w rb i o q 0 pl all) (hx : all[i]? = some x) :
    Calls Tryd.prog 25 #[.pointer (some ⟨rb, 0, none⟩), .int .i64 (e : Nat)] w fun r w' => r = .returned (.tuple #[]) ∧ Rq w' rb i o q e x.a all ∧ Keep rb w w' := by
  obtain ⟨_, _, _, _, _, _, _, _, _, _, _, c4, _, hf0⟩ := h.next hx
  have h1 := h.set.2.2.2.1 e
  have h2 := h1.set.2.2.2.2 x.a
  have K := (Keep.at (rb := rb) w 4 (.int .i64 (e : Nat))).trans (Keep.at _ 5 (.int .i64 (x.a : Nat)))
  obtain ⟨g, cap, L, hg, hi, hc, hm, hL, ⟨c0, c1, t0, t1, t2, t3⟩, -, -, -, c5, hf⟩ := h1.next hx
  have hmm : cap ≤ 9223372036854775807 := hm
  have hiI : (i : Int) < (L : Int) := by omega
  clear h h1 t0 t1 t2 hm
  go_enter Tryd.func25, Tryd.ntmps25
  go_upto_region 2 with fail
  generalize w.setCell ⟨rb, 4, none⟩ (.int .i64 (e : Nat)) = w3 at *
  go_region
  all_goals
    go_wp2
    go_end0
    exact ⟨rfl, h2.below (Below.refl _ _).drew, K.drew⟩
set_option maxRecDepth 100000 in
set_option maxHeartbeats 1000000 in
theorem fails_no {w : World} {rb i : Nat} {o q : Int} {er pl : Nat} {all : List Tk} {x : Tk} (e : Nat) (h : Rq w rb i o q er pl all) (hx : all[i]? = some x) (h0 : er ≠ 0) :
    Calls Tryd.prog 25 #[.pointer (some ⟨rb, 0, none⟩), .int .i64 (e : Nat)] w fun r w' => r = .returned (.tuple #[]) ∧ Rq w' rb i o q er pl all ∧ Keep rb w w' := by
  have b0 : ((er : Int) == 0) = false := by simp; omega
  obtain ⟨_, _, _, _, _, _, _, _, _, _, _, c4, _, hf0⟩ := h.next hx
  have K := Keep.refl rb w
  clear h0
  go_enter Tryd.func25, Tryd.ntmps25
  go_wp2
  go_end0
  exact ⟨rfl, h, K⟩
theorem is_s {w : World} {rb o q : Nat} {all : List Tk} {st : Sq} (TI : ∀ x, x ∈ all → TokI x) (s : List UInt8) (hs : s ≠ []) (hn : nameB s = false) (h : QS w rb all o q st) :
    Calls Tryd.prog 80 #[.pointer (some ⟨rb, 0, none⟩), stv s] w fun e w' => e = .returned (.bool (isS s st)) ∧ Below w.heap.size w w' := by
  match st, h with
  | .inl (er, a), ⟨i, o', q', h1, h2, h3⟩ =>
    refine (is_q s h1 (List.getElem?_eq_getElem h2)).mono ?_
    rintro e w' ⟨rfl, b⟩
    exact ⟨by simp [h3, isS], b⟩
  | .inr [], ⟨i, pl, h1, h2, h3⟩ => exact absurd rfl h3.1.ne
  | .inr (x :: r), ⟨i, pl, h1, h2, h3⟩ =>
    obtain ⟨hx, _, hm⟩ := dropQ h2
    refine (is_q s h1 hx).mono ?_
    rintro e w' ⟨rfl, b⟩
    exact ⟨by rw [TI x hm s hs hn]; simp [isS], b⟩
theorem fail_s {w : World} {rb o q : Nat} {all : List Tk} {st : Sq} (e : Nat) (he : e ≠ 0) (h : QS w rb all o q st) :
    Calls Tryd.prog 25 #[.pointer (some ⟨rb, 0, none⟩), .int .i64 (e : Nat)] w fun r w' => r = .returned (.tuple #[]) ∧ QS w' rb all o q (failS e st) ∧ Keep rb w w' := by
  match st, h with
  | .inl (er, a), ⟨i, o', q', h1, h2, h3⟩ =>
    refine (fails_no e h1 (List.getElem?_eq_getElem h2) h3).mono ?_
    rintro r w' ⟨rfl, b, k⟩
    exact ⟨rfl, ⟨i, o', q', b, h2, h3⟩, k⟩
  | .inr [], ⟨i, pl, h1, h2, h3⟩ => exact absurd rfl h3.1.ne
  | .inr (x :: r), ⟨i, pl, h1, h2, h3⟩ =>
    obtain ⟨hx, _, hm⟩ := dropQ h2
    refine (fails_q e h1 hx).mono ?_
    rintro r' w' ⟨rfl, b, k⟩
    exact ⟨rfl, ⟨i, _, _, b, by have := List.getElem?_eq_some_iff.1 hx; exact this.1, he⟩, k⟩
end Go.Proofs.YtafnlhnenmpfoaaDoor
