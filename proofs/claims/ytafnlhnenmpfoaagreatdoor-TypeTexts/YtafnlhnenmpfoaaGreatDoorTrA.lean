/- The document's own kinds: what the rules come to, kid by kid: plain. No program. -/
import Derived.Test.YtafnlhnenmpfoaaGreatDoorAwaA
namespace Go.Proofs.YtafnlhnenmpfoaaGreatDoor
open Go.ChangeShapes Go.WideShapes Go.ChangeAt Go.RowKit
set_option linter.unusedVariables false
set_option linter.unusedSimpArgs false

def awT : List UInt8 := [49, 32, 43, 32, 115, 105, 122, 101, 40, 64, 49, 41]
def awU : List UInt8 := [97, 108, 108, 32, 118, 32, 105, 110, 32, 118, 101, 114, 116, 105, 99, 101, 115, 58, 32, 118, 32, 61, 32, 119]
def typO (l : List UInt8) : Option (Int × Nat × Int) := match parseA l with | ⟨some (.inr (x, _))⟩ => some (typA x) | _ => none
theorem aw_t : typO awT = some (1, 0, 0) := by kernel_rfl
theorem aw_u : typO awU = some (0, 130, 23) := by kernel_rfl
theorem typO_some {l : List UInt8} {r : Int × Nat × Int} (h : typO l = some r) : ∃ x t, parseA l = .ok x t ∧ typA x = r := by
  unfold typO at h
  cases hp : parseA l using Rs.on with
  | out => rw [hp] at h; cases h
  | bad e a => rw [hp] at h; cases h
  | ok x t => rw [hp] at h; injection h with h; exact ⟨x, t, rfl, h⟩
set_option maxRecDepth 100000 in
set_option maxHeartbeats 1000000 in
theorem awaket_r (w : World) (FX : FixT w) : Calls Tryz.prog 13 #[] w fun e w' => e = .returned (.bool true) ∧ Below w.heap.size w w' := by
  obtain ⟨x, t, hx, hw⟩ := typO_some aw_t
  obtain ⟨y, t2, hy, hz⟩ := typO_some aw_u
  have hok := (parse_okT hx).fit
  have hok2 := (parse_okT hy).fit
  have c1 := parse_q ⟨awT.toArray⟩ w (by decide)
  have e1 : (ByteArray.mk awT.toArray).data.toList = awT := by simp
  rw [e1, hx] at c1
  have hcp := fun (w3 : World) => parse_q ⟨awU.toArray⟩ w3 (by decide)
  have e2 : (ByteArray.mk awU.toArray).data.toList = awU := by simp
  rw [e2, hy] at hcp
  clear e1 e2 hx hy
  go_enter Tryz.func13, Tryz.ntmps13
  go_wp2_with fail
  refine c1.mono ?_
  rintro e w1 ⟨aox, capx, rfl, S1, b1⟩
  clear c1
  have b2 : Below w1.heap.size w1 (w1.alloc (.cells #[.int .i64 x.k, .int .i64 x.n, stv x.nm, .slice aox x.kids.len capx, .int .i64 x.a] 25)) := (Below.refl _ w1).alloc (Nat.le_refl _) _
  have X2 : (w1.alloc (.cells #[.int .i64 x.k, .int .i64 x.n, stv x.nm, .slice aox x.kids.len capx, .int .i64 x.a] 25)).heap[w1.heap.size]? = some (.cells #[.int .i64 x.k, .int .i64 x.n, stv x.nm, .slice aox x.kids.len capx, .int .i64 x.a] 25) := heap_alloc_new w1 _
  have B2 := b1.trans (b2.mono b1.size)
  have FX2 := (FX.below b1).below b2
  have S2 : SlT (w1.alloc (.cells #[.int .i64 x.k, .int .i64 x.n, stv x.nm, .slice aox x.kids.len capx, .int .i64 x.a] 25)) x.kids aox := SlT.below (Sl.all S1) b2
  rw [exV_out]
  go_upto_region 2 with fail
  generalize w1.alloc (.cells #[.int .i64 x.k, .int .i64 x.n, stv x.nm, .slice aox x.kids.len capx, .int .i64 x.a] 25) = w2 at *
  generalize w1.heap.size = bx at *
  have c3 := tcheck_r x aox capx w2 hok FX2 S2
  rw [hw, exV_out] at c3
  obtain ⟨p0, p1, p2, p3, p4, pf⟩ := box5 X2
  go_wp2_with fail
  refine c3.mono ?_
  rintro e w3 ⟨rfl, b3⟩
  clear c3 p0 p1 p2 p3 p4 pf
  have B3 := B2.trans (b3.mono B2.size)
  have FX3 := FX2.below b3
  clear b1 b2 b3 B2 FX2 S2 X2 S1
  simp only [tupT]
  go_upto_region 3 with fail
  have c4 := hcp w3
  go_wp2_with fail
  refine c4.mono ?_
  rintro e w4 ⟨aoy, capy, rfl, S4, b4⟩
  clear c4 hcp
  have b5 : Below w4.heap.size w4 (w4.alloc (.cells #[.int .i64 y.k, .int .i64 y.n, stv y.nm, .slice aoy y.kids.len capy, .int .i64 y.a] 25)) := (Below.refl _ w4).alloc (Nat.le_refl _) _
  have X5 : (w4.alloc (.cells #[.int .i64 y.k, .int .i64 y.n, stv y.nm, .slice aoy y.kids.len capy, .int .i64 y.a] 25)).heap[w4.heap.size]? = some (.cells #[.int .i64 y.k, .int .i64 y.n, stv y.nm, .slice aoy y.kids.len capy, .int .i64 y.a] 25) := heap_alloc_new w4 _
  have B4 := B3.trans (b4.mono B3.size)
  have B5 := B4.trans (b5.mono B4.size)
  have FX5 := (FX3.below b4).below b5
  have S5 : SlT (w4.alloc (.cells #[.int .i64 y.k, .int .i64 y.n, stv y.nm, .slice aoy y.kids.len capy, .int .i64 y.a] 25)) y.kids aoy := SlT.below (Sl.all S4) b5
  rw [exV_out]
  go_upto_region 4 with fail
  generalize w4.alloc (.cells #[.int .i64 y.k, .int .i64 y.n, stv y.nm, .slice aoy y.kids.len capy, .int .i64 y.a] 25) = w5 at *
  generalize w4.heap.size = by' at *
  have c6 := tcheck_r y aoy capy w5 hok2 FX5 S5
  rw [hz, exV_out] at c6
  obtain ⟨p0, p1, p2, p3, p4, pf⟩ := box5 X5
  go_wp2_with fail
  refine c6.mono ?_
  rintro e w6 ⟨rfl, b6⟩
  clear c6 p0 p1 p2 p3 p4 pf
  have B6 := B5.trans (b6.mono B5.size)
  clear hw hz hok hok2 b4 b5 b6 B5 B4 B3 S5 S4 X5 FX5 FX3
  simp only [tupT]
  go_wp2
  go_ret
  exact ⟨rfl, B6⟩
end Go.Proofs.YtafnlhnenmpfoaaGreatDoor
namespace Go.Proofs.YtafnlhnenmpfoaaGreatDoor
open Go.ChangeShapes Go.WideShapes Go.ChangeAt Go.RowKit
set_option linter.unusedVariables false
set_option linter.unusedSimpArgs false

/-- A count down by parts. -/
def wgF : Fs → Int → Int
  | ⟨none⟩, l => l
  | ⟨some ⟨_, _, _, _, ks, r⟩⟩, l => if l < 0 then l else wgF r (wgF ks (l - 1))
theorem wgF_cons (k n : Int) (nm : List UInt8) (a : Int) (ks r : Fs) (l : Int) : wgF (.cons k n nm a ks r) l = if l < 0 then l else wgF r (wgF ks (l - 1)) := rfl
theorem wgF_neg : ∀ (f : Fs) (l : Int), l < 0 → wgF f l = l
  | ⟨none⟩, l, h => rfl
  | ⟨some ⟨k, n, nm, a, ks, r⟩⟩, l, h => by simp only [wgF, h, if_true]
theorem wgF_size : ∀ (f : Fs) (l : Int), 0 ≤ wgF f l → wgF f l = l - (f.size : Nat)
  | ⟨none⟩, l, h => by show l = l - ((0 : Nat) : Int); omega
  | ⟨some ⟨k, n, nm, a, ks, r⟩⟩, l, h => by
    have e : wgF ⟨some ⟨k, n, nm, a, ks, r⟩⟩ l = if l < 0 then l else wgF r (wgF ks (l - 1)) := rfl
    rw [e] at h ⊢
    split at h
    · omega
    · rename_i hl
      rw [if_neg hl]
      have h1 := wgF_size r _ h
      by_cases h2 : wgF ks (l - 1) < 0
      · rw [wgF_neg r _ h2] at h
        omega
      · have h3 := wgF_size ks (l - 1) (by omega)
        show _ = l - ((ks.size + r.size + 1 : Nat) : Int)
        omega
theorem wgF_le : ∀ (f : Fs) (l : Int), -1 ≤ l → -1 ≤ wgF f l ∧ wgF f l ≤ l
  | ⟨none⟩, l, h => ⟨h, Int.le_refl _⟩
  | ⟨some ⟨k, n, nm, a, ks, r⟩⟩, l, h => by
    have e : wgF ⟨some ⟨k, n, nm, a, ks, r⟩⟩ l = if l < 0 then l else wgF r (wgF ks (l - 1)) := rfl
    rw [e]
    split
    · exact ⟨h, Int.le_refl _⟩
    · have h1 := wgF_le ks (l - 1) (by omega)
      have h2 := wgF_le r _ h1.1
      exact ⟨h2.1, by omega⟩
def heavyB (e : Ex) : Bool := decide (wgF e.kids 19999 < 0)
theorem light {e : Ex} (h : heavyB e = false) : e.kids.size ≤ 19999 := by
  have h1 : ¬ wgF e.kids 19999 < 0 := by simpa [heavyB] using h
  have := wgF_size e.kids 19999 (by omega)
  omega
/-- Lists are no longer than a slice may be. -/
def Fs.wide : Fs → Prop
  | ⟨none⟩ => True
  | ⟨some ⟨_, _, _, _, ks, r⟩⟩ => ks.len ≤ maxLen ∧ ks.wide ∧ r.wide
theorem Fs.app_wide : ∀ {x y : Fs}, (x.app y).wide → y.wide
  | ⟨none⟩, y, h => h
  | ⟨some ⟨k, n, nm, a, ks, r⟩⟩, y, h => Fs.app_wide (x := r) h.2.2
def WeighOk (N : Nat) : Prop := ∀ (e : Ex) (ao : Option Addr) (cap : Nat) (l : Int) (w : World), e.kids.size < N → e.kids.len ≤ maxLen → e.kids.wide → 0 ≤ l → l ≤ 1000000 → SlA w e.kids ao →
  Calls Tryz.prog 25 #[exV e ao cap, .int .i64 l] w fun x w' => x = .returned (.int .i64 (wgF e.kids (l - 1))) ∧ Below w.heap.size w w'
set_option maxRecDepth 100000 in
set_option maxHeartbeats 1000000 in
theorem weigh_step {N : Nat} (IH : WeighOk N) : WeighOk (N + 1) := by
  intro e ao cap l w hN hlen hwd hl0 hl1 S
  obtain ⟨W, hW⟩ : ∃ W, W = wgF e.kids (l - 1) := ⟨_, rfl⟩
  rw [← hW]
  have HW : Hid (W = wgF e.kids (l - 1)) := hW
  have hml : Hid (maxLen = 9223372036854775807) := rfl
  have hlm : e.kids.len ≤ 9223372036854775807 := by have := hml.out; omega
  clear hW
  have B0 : Below w.heap.size w (w.alloc (.cells #[.int .i64 e.k, .int .i64 e.n, stv e.nm, .slice ao e.kids.len cap, .int .i64 e.a] 25)) := (Below.refl _ w).alloc (Nat.le_refl _) _
  have E0 : (w.alloc (.cells #[.int .i64 e.k, .int .i64 e.n, stv e.nm, .slice ao e.kids.len cap, .int .i64 e.a] 25)).heap[w.heap.size]? = some (.cells #[.int .i64 e.k, .int .i64 e.n, stv e.nm, .slice ao e.kids.len cap, .int .i64 e.a] 25) := heap_alloc_new w _
  rw [exV_out]
  go_enter Tryz.func25, Tryz.ntmps25
  go_upto_region 1 with fail
  generalize w.alloc (.cells #[.int .i64 e.k, .int .i64 e.n, stv e.nm, .slice ao e.kids.len cap, .int .i64 e.a] 25) = w0 at *
  obtain ⟨bx, hbx⟩ : ∃ bx, bx = w.heap.size := ⟨_, rfl⟩
  rw [← hbx] at E0 B0 ⊢
  have HB : Hid (bx = w.heap.size) := hbx
  clear hbx
  go_wp2
  go_loopw [1, 5] (fun v1 v5 wr => ∃ (done r : Fs) (c : Int), Hid (e.kids = done.app r) ∧ v1 = .int .i64 c ∧ v5 = .int .i64 (done.len : Nat) ∧ -1 ≤ c ∧ c ≤ 1000000 ∧ Hid (wgF r c = W) ∧ wr.heap[bx]? = some (.cells #[.int .i64 e.k, .int .i64 e.n, stv e.nm, .slice ao e.kids.len cap, .int .i64 e.a] 25) ∧ Below bx w wr) (fun _ v5 _ => e.kids.len - (intOf v5).toNat)
  case atStart => exact ⟨.nil, e.kids, l - 1, rfl, rfl, by show _ = Value.int .i64 ((0 : Nat) : Int); rfl, by omega, by omega, HW.out.symm, E0, B0⟩
  case round =>
    clear E0 B0 HW
    obtain ⟨done, r, c, hk, rfl, rfl, hc0, hc1, HA, E1, B1⟩ := hrel
    have hlk : e.kids.len = done.len + r.len := by rw [hk.out, Fs.len_app]
    obtain ⟨p0, p1, p2, p3, p4, pf⟩ := box5 E1
    cases r using Fs.on with
    | nil =>
      have hlt : ¬ (done.len : Int) < (e.kids.len : Int) := by simp only [Fs.len] at hlk; omega
      have FIN : Hid (W = c) := HA.out.symm
      clear HA hlk
      go_wp2
      go_ret
      rw [FIN.out]
      exact ⟨rfl, by rw [← HB.out]; exact B1⟩
    | cons kk kn km ka kks kr =>
      have hlt : (done.len : Int) < (e.kids.len : Int) := by simp only [Fs.len] at hlk; omega
      have hl3 : done.len < e.kids.len := by omega
      by_cases hc : c < 0
      · have hcI : ¬ (0 : Int) ≤ c := by omega
        have FIN : Hid (W = c) := by show W = c; rw [← HA.out]; exact wgF_neg _ _ hc
        clear HA hlk
        go_wp2
        go_ret
        rw [FIN.out]
        exact ⟨rfl, by rw [← HB.out]; exact B1⟩
      · have hcI : (0 : Int) ≤ c := by omega
        have hsz : e.kids.size = done.size + (kks.size + kr.size + 1) := by rw [hk.out, Fs.size_app]; rfl
        have hwk : (Fs.cons kk kn km ka kks kr).wide := Fs.app_wide (x := done) (by rw [← hk.out]; exact hwd)
        obtain ⟨b, off, ak, ck, hao, lb1, -, x0, x1, x2, x3, x4, SK⟩ := Sl.kidQ (by rw [← hk.out]; exact SlA.below S (by rw [← HB.out]; exact B1))
        subst hao
        have hcc := IH ⟨kk, kn, km, ka, kks⟩ ak ck c wr (by show kks.size < N; omega) hwk.1 hwk.2.1 hcI (by omega) SK
        rw [exV_out] at hcc
        simp only at hcc
        have hbd := wgF_le kks (c - 1) (by omega)
        have HA2 : Hid (wgF kr (wgF kks (c - 1)) = W) := by show _ = W; rw [← HA.out, wgF_cons, if_neg hc]
        have hk2 : Hid (e.kids = (done.snoc ⟨kk, kn, km, ka, kks⟩).app kr) := by show e.kids = _; rw [hk.out]; unfold Fs.snoc; rw [Fs.app_assoc]; rfl
        have hl2 : (done.len : Int) + 1 = ((done.snoc ⟨kk, kn, km, ka, kks⟩).len : Nat) := by rw [Fs.len_snoc]; rfl
        generalize wgF kks (c - 1) = c2 at *
        clear HA hlk hsz hwk SK hk
        go_wp2_with fail
        refine hcc.mono ?_
        rintro x w2 ⟨rfl, b2⟩
        have B2 := B1.trans (b2.mono (by have := lt_of_block E1; omega))
        have E2 := (b2.block bx (lt_of_block E1)).trans E1
        clear hcc x0 x1 x2 x3 x4 p0 p1 p2 p3 p4 pf b2 E1 B1
        go_wp2
        go_roundw
        case rel => exact ⟨_, kr, c2, hk2, rfl, by rw [← hl2], hbd.1, by omega, HA2, E2, B2⟩
        case measure => simp [intOf]; omega
theorem weigh_ok : ∀ N, WeighOk N
  | 0 => fun e ao cap l w h => absurd h (Nat.not_lt_zero _)
  | N + 1 => weigh_step (weigh_ok N)
set_option maxRecDepth 100000 in
theorem heavy_r (e : Ex) (ao : Option Addr) (cap : Nat) (w : World) (hlen : e.kids.len ≤ maxLen) (hwd : e.kids.wide) (S : SlA w e.kids ao) :
    Calls Tryz.prog 12 #[exV e ao cap] w fun x w' => x = .returned (.bool (heavyB e)) ∧ Below w.heap.size w w' := by
  have B0 : Below w.heap.size w (w.alloc (.cells #[.int .i64 e.k, .int .i64 e.n, stv e.nm, .slice ao e.kids.len cap, .int .i64 e.a] 25)) := (Below.refl _ w).alloc (Nat.le_refl _) _
  have hs0 := B0.size
  have c1 := weigh_ok (e.kids.size + 1) e ao cap 20000 _ (by omega) hlen hwd (by omega) (by omega) (SlA.below S B0)
  rw [exV_out] at c1 ⊢
  have e1 : (20000 : Int) - 1 = 19999 := rfl
  rw [e1] at c1
  unfold heavyB
  generalize wgF e.kids 19999 = r at *
  go_enter Tryz.func12, Tryz.ntmps12
  go_wp2_with fail
  refine c1.mono ?_
  rintro x w1 ⟨rfl, b1⟩
  have B1 := B0.trans (b1.mono hs0)
  clear c1 b1 B0 hs0 e1
  go_wp2
  go_ret
  exact ⟨rfl, B1⟩
end Go.Proofs.YtafnlhnenmpfoaaGreatDoor
namespace Go.Proofs.YtafnlhnenmpfoaaGreatDoor
set_option linter.unusedVariables false
set_option linter.unusedSimpArgs false

abbrev Er := Option (Nat × Int)
def stS : Sum (Nat × Int) Int → Er
  | .inl x => some x
  | .inr _ => none
def resR (st : Er) (k : Int) : Sum (Nat × Int) Int :=
  match st with
  | some x => .inl x
  | none => .inr k
/-- A kid that must be of a kind, where an error may be noted. -/
def musR (st : Er) (m : Int) (e : Ex) (b : List (List UInt8)) : Er :=
  match st with
  | some x => some x
  | none => stS (mustT m e.a (chkE e b))
/-- All kids must be vertices. -/
def musL : Fs → Er → List (List UInt8) → Er
  | ⟨none⟩, st, _ => st
  | ⟨some ⟨k, n, nm, a, ks, r⟩⟩, st, b => musL r (musR st 3 ⟨k, n, nm, a, ks⟩ b) b
theorem musL_some : ∀ (f : Fs) (x : Nat × Int) (b : List (List UInt8)), musL f (some x) b = some x
  | ⟨none⟩, x, b => rfl
  | ⟨some ⟨k, n, nm, a, ks, r⟩⟩, x, b => musL_some r x b
theorem musL_snoc : ∀ (f : Fs) (y : Ex) (st : Er) (b : List (List UInt8)), musL (f.snoc y) st b = musR (musL f st b) 3 y b
  | ⟨none⟩, y, st, b => rfl
  | ⟨some ⟨k, n, nm, a, ks, r⟩⟩, y, st, b => musL_snoc r y _ b
theorem must_cases (m a : Int) (r : Sum (Nat × Int) Int) (hm : m ≠ 0) : (∃ x, mustT m a r = .inl x) ∨ (mustT m a r = .inr m ∧ r = .inr m) := by
  cases r with
  | inl x => exact .inl ⟨x, rfl⟩
  | inr is =>
    simp only [mustT]
    by_cases h : is = m
    · subst h
      exact .inr ⟨by rw [if_neg (fun h2 => h2.2 rfl)], rfl⟩
    · exact .inl ⟨_, by rw [if_pos ⟨hm, h⟩]⟩
theorem chk_ex' (x : Ex) (r : Fs) (k n : Int) (nm : List UInt8) (len : Nat) (b : List (List UInt8)) (i : Nat) (done : List Int) (hk : k ≠ 21) :
    chkFs (Fs.ex x r) k n nm len b i done = (match mustT (ruleT k n len done) x.a (chkE x b) with
      | .inl e => .inl e
      | .inr is => chkFs r k n nm len b (i + 1) (done ++ [is])) := by
  have h := chk_ex x r k n nm len b i done
  rw [if_neg (fun h2 => hk h2.1)] at h
  exact h
theorem rep_app (n : Nat) (d : List Int) : d ++ [3] ++ List.replicate n 3 = d ++ List.replicate (n + 1) 3 := by
  rw [List.append_assoc]
  rfl
theorem chk_vert (k n : Int) (nm : List UInt8) (len : Nat) (b : List (List UInt8)) (hk : k ≠ 21) : ∀ (f : Fs) (i : Nat) (done : List Int), (∀ d : List Int, done.length ≤ d.length → d.length < done.length + f.len → ruleT k n len d = 3) →
    chkFs f k n nm len b i done = (match musL f none b with | some x => .inl x | none => .inr (done ++ List.replicate f.len 3))
  | ⟨none⟩, i, done, h => by simp [chkFs, musL, Fs.len]
  | ⟨some ⟨kk, kn, km, ka, kks, kr⟩⟩, i, done, h => by
    have e1 := chk_ex' ⟨kk, kn, km, ka, kks⟩ kr k n nm len b i done hk
    have e2 : chkFs ⟨some ⟨kk, kn, km, ka, kks, kr⟩⟩ k n nm len b i done = _ := e1
    rw [e2, h done (Nat.le_refl _) (by simp [Fs.len])]
    simp only [musL, musR]
    rcases must_cases 3 ka (chkE ⟨kk, kn, km, ka, kks⟩ b) (by decide) with ⟨x, hx⟩ | ⟨hx, -⟩
    · rw [hx]
      simp only [stS, musL_some]
    · rw [hx]
      simp only [stS]
      rw [chk_vert k n nm len b hk kr (i + 1) (done ++ [3]) (fun d h1 h2 => h d (by simp at h1; omega) (by simp [Fs.len] at h1 h2 ⊢; omega))]
      cases musL kr none b with
      | some x => rfl
      | none => simp only [Fs.len]; rw [rep_app]
/-- One kid, of a fixed kind. -/
theorem chk_one {k n : Int} {nm : List UInt8} {a : Int} {x : Ex} {b : List (List UInt8)} (m g : Int) (h4 : k ≠ 4) (h21 : k ≠ 21) (h0 : ruleT k n 1 [] = m) (hm : m ≠ 0) (h1 : ruleT k n 1 [m] = g) :
    chkE ⟨k, n, nm, a, Fs.ex x .nil⟩ b = resR (musR none m x b) g := by
  rw [chkE_kids _ _ h4]
  show endT k n 1 (chkFs (Fs.ex x .nil) k n nm 1 b 0 []) = _
  rw [chk_ex' _ _ _ _ _ _ _ _ _ h21, h0]
  unfold musR
  simp only
  rcases must_cases m x.a (chkE x b) hm with ⟨y, hy⟩ | ⟨hy, -⟩
  · rw [hy]
    rfl
  · rw [hy]
    show Sum.inr (ruleT k n 1 [m]) = _
    rw [h1]
    rfl
/-- Two kids, each of the same fixed kind. -/
theorem chk_bin {k n : Int} {nm : List UInt8} {a : Int} {x y : Ex} {b : List (List UInt8)} (m g : Int) (h4 : k ≠ 4) (h21 : k ≠ 21) (h0 : ruleT k n 2 [] = m) (h1 : ruleT k n 2 [m] = m) (hm : m ≠ 0) (h2 : ruleT k n 2 [m, m] = g) :
    chkE ⟨k, n, nm, a, Fs.ex x (Fs.ex y .nil)⟩ b = resR (musR (musR none m x b) m y b) g := by
  rw [chkE_kids _ _ h4]
  show endT k n 2 (chkFs (Fs.ex x (Fs.ex y .nil)) k n nm 2 b 0 []) = _
  rw [chk_ex' _ _ _ _ _ _ _ _ _ h21, h0]
  rcases must_cases m x.a (chkE x b) hm with ⟨z, hz⟩ | ⟨hz, -⟩
  · unfold musR
    simp only
    rw [hz]
    rfl
  · have e1 : musR none m x b = none := by unfold musR; simp only; rw [hz]; rfl
    rw [hz, e1]
    simp only [List.nil_append]
    rw [chk_ex' _ _ _ _ _ _ _ _ _ h21, h1]
    unfold musR
    simp only
    rcases must_cases m y.a (chkE y b) hm with ⟨z, hz⟩ | ⟨hz, -⟩
    · rw [hz]
      rfl
    · rw [hz]
      show Sum.inr (ruleT k n 2 [m, m]) = _
      rw [h2]
      rfl
/-- Two kids of one kind, whichever that is. -/
theorem chk_alike {k n : Int} {nm : List UInt8} {a : Int} {x y : Ex} {b : List (List UInt8)} (hk : k = 13 ∨ k = 14) :
    chkE ⟨k, n, nm, a, Fs.ex x (Fs.ex y .nil)⟩ b = (match chkE x b with | .inl e => .inl e | .inr k0 => resR (musR none k0 y b) 2) := by
  rw [chkE_kids _ _ (by show k ≠ 4; omega)]
  show endT k n 2 (chkFs (Fs.ex x (Fs.ex y .nil)) k n nm 2 b 0 []) = _
  have hr : ∀ d, ruleT k n 2 d = (match d with | [] => 0 | [a] => a | _ => 2) := fun d => by unfold ruleT; rw [if_pos hk]; rcases d with _ | ⟨x, _ | ⟨y, r⟩⟩ <;> rfl
  rw [chk_ex' _ _ _ _ _ _ _ _ _ (by omega), hr]
  simp only
  cases hx : chkE x b with
  | inl e => rfl
  | inr k0 =>
    simp only [mustT]
    rw [if_neg (fun h => h.1 rfl)]
    simp only [List.nil_append]
    rw [chk_ex' _ _ _ _ _ _ _ _ _ (by omega), hr]
    unfold musR
    simp only
    cases mustT k0 y.a (chkE y b) with
    | inl e => rfl
    | inr k1 =>
      show Sum.inr (ruleT k n 2 [k0, k1]) = _
      rw [hr]
      rfl
/-- A question and two kids of one kind. -/
theorem chk_choice {n : Int} {nm : List UInt8} {a : Int} {x y z : Ex} {b : List (List UInt8)} :
    chkE ⟨19, n, nm, a, Fs.ex x (Fs.ex y (Fs.ex z .nil))⟩ b = (match musR none 2 x b with
      | some e => .inl e
      | none => match chkE y b with | .inl e => .inl e | .inr k1 => resR (musR none k1 z b) k1) := by
  rw [chkE_kids _ _ (by show (19 : Int) ≠ 4; omega)]
  show endT 19 n 3 (chkFs (Fs.ex x (Fs.ex y (Fs.ex z .nil))) 19 n nm 3 b 0 []) = _
  have hr : ∀ d, ruleT 19 n 3 d = (match d with | [] => 2 | [_] => 0 | _ :: b :: _ => b) := fun d => by unfold ruleT; rw [if_neg (by omega), if_pos rfl]; rcases d with _ | ⟨x, _ | ⟨y, r⟩⟩ <;> rfl
  rw [chk_ex' _ _ _ _ _ _ _ _ _ (by omega), hr]
  simp only
  rcases must_cases 2 x.a (chkE x b) (by decide) with ⟨u, hu⟩ | ⟨hu, -⟩
  · unfold musR
    simp only
    rw [hu]
    rfl
  · have e1 : musR none 2 x b = none := by unfold musR; simp only; rw [hu]; rfl
    rw [hu, e1]
    simp only [List.nil_append]
    rw [chk_ex' _ _ _ _ _ _ _ _ _ (by omega), hr]
    simp only
    cases hy : chkE y b with
    | inl e => rfl
    | inr k1 =>
      simp only [mustT]
      rw [if_neg (fun h => h.1 rfl)]
      simp only [List.cons_append, List.nil_append]
      rw [chk_ex' _ _ _ _ _ _ _ _ _ (by omega), hr]
      unfold musR
      simp only
      cases mustT k1 z.a (chkE z b) with
      | inl e => rfl
      | inr k2 =>
        show Sum.inr (ruleT 19 n 3 [2, k1, k2]) = _
        rw [hr]
        rfl
def giveT (n : Int) : Int := if n = 1 ∨ n = 2 then 2 else if n = 10 then 3 else 1
def bodyT (n : Int) : Int := if n ≤ 3 then 2 else 1
def wholeT (n : Int) : Int := if n ≤ 2 then 2 else 1
theorem chk_call {n : Int} {nm : List UInt8} {a : Int} {f : Fs} {b : List (List UInt8)} (hn : 1 ≤ n ∧ n ≤ 10) (hl : (fixL 20 n).length = f.len + 1) :
    chkE ⟨20, n, nm, a, f⟩ b = resR (musL f none b) (giveT n) := by
  rw [chkE_kids _ _ (by show (20 : Int) ≠ 4; omega)]
  show endT 20 n f.len (chkFs f 20 n nm f.len b 0 []) = _
  have hn2 : n = 1 ∨ n = 2 ∨ n = 3 ∨ n = 4 ∨ n = 5 ∨ n = 6 ∨ n = 7 ∨ n = 8 ∨ n = 9 ∨ n = 10 := by omega
  have hv : ∀ d : List Int, d.length < f.len → ruleT 20 n f.len d = 3 := fun d hd => by
    have hr : ruleT 20 n f.len d = (fixL 20 n)[d.length]?.getD 0 := by
      unfold ruleT
      rw [if_neg (by omega), if_neg (by omega), if_neg (by omega)]
    rw [hr]
    generalize d.length = j at hd
    generalize f.len = m at hl hd
    rcases hn2 with rfl | rfl | rfl | rfl | rfl | rfl | rfl | rfl | rfl | rfl <;> (simp [fixL] at hl; subst hl)
    all_goals (
      have hj : j = 0 ∨ j = 1 := by omega
      rcases hj with rfl | rfl <;> first | rfl | omega)
  rw [chk_vert 20 n nm f.len b (by omega) f 0 [] (fun d _ h2 => hv d (by simpa using h2))]
  cases musL f none b with
  | some x => rfl
  | none =>
    show Sum.inr (ruleT 20 n f.len ([] ++ List.replicate f.len 3)) = _
    have hr : ruleT 20 n f.len ([] ++ List.replicate f.len 3) = (fixL 20 n)[f.len]?.getD 0 := by
      unfold ruleT
      rw [if_neg (by omega), if_neg (by omega), if_neg (by omega)]
      simp
    rw [hr]
    generalize f.len = m at hl
    rcases hn2 with rfl | rfl | rfl | rfl | rfl | rfl | rfl | rfl | rfl | rfl <;> (simp [fixL] at hl; subst hl; rfl)
theorem chk_set {k n : Int} {nm : List UInt8} {a : Int} {f : Fs} {b : List (List UInt8)} (hk : (k = 22 ∨ k = 23) ∧ f.len = 0 ∨ k = 24 ∧ f.len = 1 ∨ k = 25) :
    chkE ⟨k, n, nm, a, f⟩ b = resR (musL f none b) 4 := by
  rw [chkE_kids _ _ (by show k ≠ 4; omega)]
  show endT k n f.len (chkFs f k n nm f.len b 0 []) = _
  have hv : ∀ d : List Int, d.length < f.len → ruleT k n f.len d = 3 := fun d hd => by
    rcases hk with ⟨rfl | rfl, h0⟩ | ⟨rfl, h0⟩ | rfl
    · omega
    · omega
    · have : d.length = 0 := by omega
      obtain rfl := List.length_eq_zero_iff.1 this
      rfl
    · unfold ruleT
      rw [if_neg (by omega), if_neg (by omega), if_pos rfl, if_pos hd]
  rw [chk_vert k n nm f.len b (by omega) f 0 [] (fun d _ h2 => hv d (by simpa using h2))]
  cases musL f none b with
  | some x => rfl
  | none =>
    show Sum.inr (ruleT k n f.len ([] ++ List.replicate f.len 3)) = Sum.inr 4
    congr 1
    rcases hk with ⟨rfl | rfl, h0⟩ | ⟨rfl, h0⟩ | rfl
    · rw [h0]; rfl
    · rw [h0]; rfl
    · rw [h0]; rfl
    · unfold ruleT
      rw [if_neg (by omega), if_neg (by omega), if_pos rfl, if_neg (by simp)]
theorem chk_quant {n : Int} {nm : List UInt8} {a : Int} {s x : Ex} {b : List (List UInt8)} (hn : 1 ≤ n ∧ n ≤ 6) (hs : chkE s b = resR (musL s.kids none b) 4) :
    chkE ⟨21, n, nm, a, Fs.ex s (Fs.ex x .nil)⟩ b = resR (musR (musL s.kids none b) (bodyT n) x (b ++ [nm])) (wholeT n) := by
  rw [chkE_kids _ _ (by show (21 : Int) ≠ 4; omega)]
  show endT 21 n 2 (chkFs (Fs.ex s (Fs.ex x .nil)) 21 n nm 2 b 0 []) = _
  have hn2 : n = 1 ∨ n = 2 ∨ n = 3 ∨ n = 4 ∨ n = 5 ∨ n = 6 := by omega
  have r0 : ruleT 21 n 2 [] = 4 := by rcases hn2 with rfl | rfl | rfl | rfl | rfl | rfl <;> rfl
  have r1 : ruleT 21 n 2 [4] = bodyT n := by rcases hn2 with rfl | rfl | rfl | rfl | rfl | rfl <;> rfl
  have r2 : ∀ k, ruleT 21 n 2 [4, k] = wholeT n := fun k => by rcases hn2 with rfl | rfl | rfl | rfl | rfl | rfl <;> rfl
  have hb0 : bodyT n ≠ 0 := by unfold bodyT; split <;> omega
  have e1 := chk_ex s (Fs.ex x .nil) 21 n nm 2 b 0 []
  have e2 := chk_ex x .nil 21 n nm 2 b 1 [4]
  rw [if_neg (by omega), hs, r0] at e1
  rw [if_pos (by decide), r1] at e2
  show endT 21 n 2 (chkFs (.cons s.k s.n s.nm s.a s.kids (.cons x.k x.n x.nm x.a x.kids .nil)) 21 n nm 2 b 0 []) = _
  rw [show chkFs (.cons s.k s.n s.nm s.a s.kids (.cons x.k x.n x.nm x.a x.kids .nil)) 21 n nm 2 b 0 [] = _ from e1]
  cases musL s.kids none b with
  | some z => rfl
  | none =>
    simp only [resR, mustT]
    rw [if_neg (fun h => h.2 rfl)]
    simp only [List.nil_append]
    rw [show chkFs (Fs.ex x .nil) 21 n nm 2 b 1 [4] = _ from e2]
    unfold musR
    simp only
    rcases must_cases (bodyT n) x.a (chkE x (b ++ [nm])) hb0 with ⟨z, hz⟩ | ⟨hz, -⟩
    · rw [hz]
      rfl
    · rw [hz]
      show Sum.inr (ruleT 21 n 2 [4, bodyT n]) = _
      rw [r2]
      rfl
theorem chkFs_len : ∀ (f : Fs) (k n : Int) (nm : List UInt8) (len : Nat) (b : List (List UInt8)) (i : Nat) (done d : List Int), chkFs f k n nm len b i done = .inr d → d.length = done.length + f.len
  | ⟨none⟩, k, n, nm, len, b, i, done, d, h => by
    simp only [chkFs] at h
    injection h with h
    subst h
    rfl
  | ⟨some ⟨kk, kn, km, ka, kks, kr⟩⟩, k, n, nm, len, b, i, done, d, h => by
    have e1 : chkFs ⟨some ⟨kk, kn, km, ka, kks, kr⟩⟩ k n nm len b i done = _ := chk_ex ⟨kk, kn, km, ka, kks⟩ kr k n nm len b i done
    rw [e1] at h
    cases hm : mustT (ruleT k n len done) ka (chkE ⟨kk, kn, km, ka, kks⟩ (if k = 21 ∧ i ≠ 0 then b ++ [nm] else b)) with
    | inl z => simp only at h; rw [hm] at h; cases h
    | inr is =>
      simp only at h
      rw [hm] at h
      have := chkFs_len kr k n nm len b (i + 1) (done ++ [is]) d h
      simp only [List.length_append, List.length_cons, List.length_nil, Fs.len] at this ⊢
      omega
/-- Where sets may stand. -/
def Fs.stk : Fs → Bool → Prop
  | ⟨none⟩, _ => True
  | ⟨some ⟨k, _, _, _, ks, r⟩⟩, first => isSetK k = first ∧ ks.stk (k == 21) ∧ r.stk false
theorem hFs_stk : ∀ (f : Fs) (b : Bool) (c c' : Nat), hFs f b c = some c' → f.stk b
  | ⟨none⟩, b, c, c', h => trivial
  | ⟨some ⟨k, n, nm, a, ks, r⟩⟩, b, c, c', h => by
    unfold hFs at h
    split at h
    · cases h
    · rename_i h0
      split at h
      · cases h
      · split at h
        · split at h
          · cases h
          · rename_i c2 h2
            exact ⟨by simpa using h0, hFs_stk ks _ _ _ h2, hFs_stk r _ _ _ h⟩
        · cases h
theorem hE_stk {e : Ex} {c c' : Nat} (h : hE e c = some c') : e.kids.stk (e.k == 21) := by
  unfold hE at h
  split at h
  · cases h
  · split at h
    · exact hFs_stk _ _ _ _ h
    · cases h
/-- What is of a kind is of one. -/
theorem chkE_pos : ∀ (N : Nat) (e : Ex) (b : List (List UInt8)) (k : Int), e.kids.size < N → e.okA → chkE e b = .inr k → k ≠ 0
  | 0, e, b, k, hN, _, _ => absurd hN (Nat.not_lt_zero _)
  | N + 1, ⟨k0, n, nm, a, f⟩, b, k, hN, hok, h => by
    have ho := okR_of hok.1
    have hkid := hok.1.2.2.1
    simp only at hN ho hkid
    by_cases h13 : k0 = 13 ∨ k0 = 14
    · have hl : f.len = 2 := by
        rcases h13 with rfl | rfl <;> (simp [kidB, opOf, opsL] at hkid; omega)
      obtain ⟨x, y, rfl⟩ := len2 hl
      rw [chk_alike h13] at h
      cases hx : chkE x b with
      | inl z => rw [hx] at h; cases h
      | inr k1 =>
        rw [hx] at h
        simp only at h
        cases hm : musR none k1 y b with
        | some z => rw [hm] at h; cases h
        | none => rw [hm] at h; injection h with h; omega
    by_cases h19 : k0 = 19
    · subst h19
      have hl : f.len = 3 := by simp [kidB] at hkid; omega
      obtain ⟨x, y, z, rfl⟩ := len3 hl
      rw [chk_choice] at h
      cases hx : musR none 2 x b with
      | some u => rw [hx] at h; cases h
      | none =>
        rw [hx] at h
        simp only at h
        cases hy : chkE y b with
        | inl u => rw [hy] at h; cases h
        | inr k1 =>
          rw [hy] at h
          simp only at h
          cases hm : musR none k1 z b with
          | some u => rw [hm] at h; cases h
          | none =>
            rw [hm] at h
            injection h with h
            subst h
            have hsz : y.kids.size < N := by
              simp only [size_ex, Fs.size] at hN
              omega
            exact chkE_pos N y b _ hsz (okA_ex (okA_ex hok.2).2).1 hy
    by_cases h25 : k0 = 22 ∨ k0 = 23 ∨ k0 = 24 ∨ k0 = 25
    · have hl : (k0 = 22 ∨ k0 = 23) ∧ f.len = 0 ∨ k0 = 24 ∧ f.len = 1 ∨ k0 = 25 := by
        rcases h25 with rfl | rfl | rfl | rfl
        · exact .inl ⟨.inl rfl, by simp [kidB] at hkid; first | done | exact hkid | omega⟩
        · exact .inl ⟨.inr rfl, by simp [kidB] at hkid; first | done | exact hkid | omega⟩
        · exact .inr (.inl ⟨rfl, by simp [kidB] at hkid; first | done | exact hkid | omega⟩)
        · exact .inr (.inr rfl)
      rw [chk_set hl] at h
      cases hm : musL f none b with
      | some z => rw [hm] at h; cases h
      | none => rw [hm] at h; injection h with h; omega
    have hpos : ∀ (j : Nat) (v : Int), (fixL k0 n)[j]? = some v → v ≠ 0 := by
      intro j v hv
      have hmem := List.mem_of_getElem? hv
      have hi : ∀ (P : Prop) [Decidable P] (a b : List Int), (∀ x, x ∈ a → x ≠ 0) → (∀ x, x ∈ b → x ≠ 0) → ∀ x, x ∈ (if P then a else b) → x ≠ 0 := by
        intro P _ a b ha hb
        split
        · exact ha
        · exact hb
      revert v
      suffices hall : ∀ x, x ∈ fixL k0 n → x ≠ 0 from fun v _ hm => hall v hm
      unfold fixL
      repeat' apply hi
      all_goals (intro x hx; simp at hx <;> omega)
    have hfl : (fixL k0 n).length = f.len + 1 := by
      rcases ho with ho | ⟨rfl, -, ho⟩ | ⟨rfl, -, ho⟩ | ⟨hr, ho⟩
      · omega
      · exact ho
      · exact ho
      · rw [← ho]
        unfold fixL
        simp only [hr.2.2.2.1, hr.2.2.2.2.1, if_false]
    have hlen : ∀ (f : Fs) (i : Nat) (done d : List Int), chkFs f k0 n nm (f.len + i) b i done = .inr d → True := fun _ _ _ _ _ => trivial
    unfold chkE at h
    split at h
    · cases h
    · cases hc : chkFs f k0 n nm f.len b 0 [] with
      | inl z => simp only at h; rw [hc] at h; cases h
      | inr d =>
        simp only at h
        rw [hc] at h
        injection h with h
        have hd := chkFs_len f k0 n nm f.len b 0 [] d hc
        have hr : ruleT k0 n f.len d = (fixL k0 n)[d.length]?.getD 0 := by
          unfold ruleT
          rw [if_neg (by omega), if_neg (by omega), if_neg (by omega)]
        have hx : (fixL k0 n)[d.length]? = some ((fixL k0 n)[d.length]'(by simp at hd; omega)) := List.getElem?_eq_getElem (by simp at hd; omega)
        rw [← h, hr, hx]
        exact hpos _ _ hx
end Go.Proofs.YtafnlhnenmpfoaaGreatDoor
