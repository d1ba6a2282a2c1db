/- A sequence stands as a list of handles says. -/
import Derived.Test.YtijgilkpmkgbjaaOneSeq
namespace Go.Proofs.Ytijgilkpmkgbjaa
open Go.ChangeShapes Go.WideShapes Go.ChangeAt Go.RowKit
set_option linter.unusedVariables false

theorem Vw.cells {w : World} {o : Nat → Nat} {i : Nat} {v : Value} {xs : List Nat} (h : Vw w o i v xs) (h0 : 0 < xs.length) : ∃ g off cap, v = .slice (some ⟨g, off, none⟩) xs.length cap ∧ xs.length ≤ cap ∧ cap ≤ maxLen ∧ o g = i ∧ g < w.heap.size ∧ ∀ j (hj : j < xs.length), w.cell? ⟨g, off + j, none⟩ = some (.int .i64 (xs[j] : Nat)) := by
  obtain ⟨ao, cap, rfl, hc, hm, hp⟩ := h
  obtain ⟨g, off, rfl, h2, h3, h4⟩ := hp h0
  exact ⟨g, off, cap, rfl, hc, hm, h2, h3, h4⟩
theorem cut_at {xs : List Nat} {k : Nat} (hk : k < xs.length) : xs = xs.take k ++ xs[k] :: xs.drop (k + 1) := by
  rw [← List.drop_eq_getElem_cons hk, List.take_append_drop]

def RL2 (lb : Nat) : Nat → Prop := fun k => FL 1 k ∨ k = lb
theorem RL2.not {lb la : Nat} (h1 : ¬ FL 1 la) (h2 : la ≠ lb) : ¬ RL2 lb la := fun h => h.elim h1 h2
/-- What stands leaves. -/
def StandsOut (w : World) (o : Nat → Nat) (lb p room n : Nat) (it : Nat → It) (S : Nat → List Nat) (e : Ending) (w' : World) : Prop := e = .returned (.bool true) ∧ ∃ o', Fo w' o' 1 p room n [] it S ∧ Step (RL2 lb) w o w' o'

set_option maxRecDepth 100000 in
set_option maxHeartbeats 4000000 in
theorem stands_any (w : World) (o : Nat → Nat) (lb la p room n : Nat) (it : Nat → It) (S : Nat → List Nat) (va : Value) (xs : List Nat) (F : Fo w o 1 p room n [] it S) (O : One n S xs) (hv : Vw w o la va xs) (h0 : 0 < xs.length) (hla : ¬ FL 1 la) (hlb : ¬ FL 1 lb) (hne : la ≠ lb) :
    Calls Try.prog 20 #[.pointer (some ⟨p, 0, none⟩), va] w fun e w' => StandsOut w o lb p room n it S e w' := by
  have hlen : xs.length ≤ 1024 := by rw [O.len]; exact F.le
  have nla : ¬ RL2 lb la := RL2.not hla hne
  have HV : Hid (Vw w o la va xs) := hv
  obtain ⟨g, off, cap, rfl, hc, hmx, hg, hgl, hcell⟩ := hv.cells h0
  have HCELL : Hid (∀ wx ox, Step (RL2 lb) w o wx ox → ∀ j (hj : j < xs.length), wx.cell? ⟨g, off + j, none⟩ = some (.int .i64 (xs[j] : Nat))) := fun wx ox s j hj => by
    rw [s.cell hgl (by rw [hg]; exact nla)]; exact hcell j hj
  have hmem : ∀ j (hj : j < xs.length), xs[j] ∈ xs := fun j hj => List.getElem_mem _
  have hh : xs.length / 2 < xs.length := by omega
  have c1 := hcell (xs.length / 2) hh
  have l1 := O.live (hmem _ hh)
  have e1 := O.seq _ (hmem _ hh)
  have hca := allInF w o 1 p room n lb [] it S xs[xs.length / 2] F l1 hlb
  rw [e1] at hca
  unfold maxLen at hmx
  obtain ⟨q, hq⟩ : ∃ q, q = xs[xs.length / 2] := ⟨_, rfl⟩
  rw [← hq] at c1 hca
  have hdiv : ((xs.length / 2 : Nat) : Int) = (xs.length : Int) / 2 := by omega
  clear hcell e1 hq l1
  go_enter Try.func20, Try.ntmps20
  go_wp2_with fail
  refine hca.mono ?_
  rintro e w1 ⟨vl, o1, rfl, R1, F1, S1⟩
  have S1' : Step (RL2 lb) w o w1 o1 := S1
  have hs := same_true w1 o1 o1 lb la vl _ xs R1.vw (HV.out.step S1' nla) (by omega)
  clear hca R1 S1 c1
  go_wp2_with fail
  refine hs.mono ?_
  rintro e w2 ⟨rfl, m2, rfl⟩
  have F2 := F1.quiet ((Step.refl (fun _ => False) w1 o1).drewN m2)
  have S2 : Step (RL2 lb) w o (w1.drewN m2) o1 := S1'.drewN m2
  clear hs F1 S1'
  go_wp2
  go_loopw [8] (fun u wr => ∃ k : Nat, k ≤ xs.length ∧ u = .int .i64 (k : Nat) ∧ ∃ o', Fo wr o' 1 p room n [] it S ∧ Step (RL2 lb) w o wr o') (fun u _ => xs.length - (intOf u).toNat)
  case atStart => exact ⟨0, by omega, by go_num, o1, F2, S2⟩
  case round =>
    clear F2 S2
    obtain ⟨k, hk, rfl, o3, F3, S3⟩ := hrel
    by_cases hlt : k < xs.length
    · have hlt2 : xs.length - 1 - k < xs.length := by omega
      have c1 := HCELL.out wr o3 S3 k hlt
      have HC2 : Hid (∀ wx ox, Step (RL2 lb) w o wx ox → wx.cell? ⟨g, off + k, none⟩ = some (.int .i64 (xs[k] : Nat)) ∧ wx.cell? ⟨g, off + (xs.length - 1 - k), none⟩ = some (.int .i64 (xs[xs.length - 1 - k] : Nat))) := fun wx ox s => ⟨HCELL.out wx ox s k hlt, HCELL.out wx ox s (xs.length - 1 - k) hlt2⟩
      have l1 := O.live (hmem k hlt)
      have l2 := O.live (hmem _ hlt2)
      have e1 := O.seq _ (hmem k hlt)
      have e2 := O.seq _ (hmem _ hlt2)
      have hcr := rankInF wr o3 1 p room n [] it S xs[k] (xs.take k) (xs.drop (k + 1)) F3 l1 (by rw [e1]; exact cut_at hlt)
      rw [List.length_take, Nat.min_eq_left (by omega)] at hcr
      have hcat : Hid (∀ wx ox, Fo wx ox 1 p room n [] it S → Calls Try.prog 38 #[.pointer (some ⟨p, 0, none⟩), .int .i64 (xs[xs.length - 1 - k] : Nat), .int .i64 (k : Nat)] wx fun e w' => e = .returned (.tuple #[.int .i64 (xs[k] : Nat), .int .i64 0]) ∧ ∃ o', Fo w' o' 1 p room n [] it S ∧ Step (FL 1) wx ox w' o') := fun wx ox Fx => atInF wx ox 1 p room n [] it S _ k _ Fx l2 (by rw [e2]; exact List.getElem?_eq_getElem hlt)
      obtain ⟨x, hx⟩ : ∃ x, x = xs[k] := ⟨_, rfl⟩
      obtain ⟨y, hy⟩ : ∃ y, y = xs[xs.length - 1 - k] := ⟨_, rfl⟩
      rw [← hx] at c1 hcr HC2 hcat
      rw [← hy] at HC2 hcat
      have esub : ((xs.length - 1 - k : Nat) : Int) = (xs.length : Int) - 1 - k := by omega
      clear hmem e1 e2 l1 l2 hx hy F3
      go_wp2_with fail
      refine hcr.mono ?_
      rintro e w4 ⟨rfl, o4, F4, S4⟩
      have S4' := S3.trans (S4.mono (J := RL2 lb) fun k hk => Or.inl hk)
      obtain ⟨y1, y2⟩ := HC2.out _ _ S4'
      clear hcr c1 S3 S4
      go_wp2_with fail
      refine (hcat.out _ _ F4).mono ?_
      rintro e w5 ⟨rfl, o5, F5, S5⟩
      have S5' := S4'.trans (S5.mono (J := RL2 lb) fun k hk => Or.inl hk)
      obtain ⟨y3, y4⟩ := HC2.out _ _ S5'
      clear hcat F4 S5 S4' y1 y2
      go_wp2
      go_roundw
      case rel => (try ((repeat apply Exists.intro); refine ⟨?_, rfl⟩)); exact ⟨k + 1, by omega, by go_num, o5, F5, S5'⟩
      case measure => simp [intOf]; omega
    · obtain rfl : k = xs.length := by omega
      have c0 := HCELL.out wr o3 S3 0 h0
      have l1 := O.live (hmem 0 h0)
      have e1 := O.seq _ (hmem 0 h0)
      have hcb := atBigF wr o3 1 p room n [] it S xs[0] (xs.length : Nat) F3 l1 (by rw [e1]; omega)
      have hcn : Hid (∀ wx ox, Fo wx ox 1 p room n [] it S → Calls Try.prog 38 #[.pointer (some ⟨p, 0, none⟩), .int .i64 (xs[0] : Nat), .int .i64 (-1)] wx fun e w' => e = .returned (.tuple #[.int .i64 0, .int .i64 34]) ∧ w' = wx) := fun wx ox Fx => atNegF wx ox 1 p room n [] it S _ (-1) Fx l1 (by decide)
      obtain ⟨x, hx⟩ : ∃ x, x = xs[0] := ⟨_, rfl⟩
      have HC2 : Hid (∀ wx ox, Step (RL2 lb) w o wx ox → wx.cell? ⟨g, off, none⟩ = some (.int .i64 (x : Nat))) := fun wx ox s => by rw [hx]; exact HCELL.out wx ox s 0 h0
      rw [← hx] at c0 hcb hcn
      rw [Nat.add_zero] at c0
      clear hmem e1 l1 hx F3
      go_wp2_with fail
      refine hcb.mono ?_
      rintro e w4 ⟨rfl, o4, F4, S4⟩
      have S4' := S3.trans (S4.mono (J := RL2 lb) fun k hk => Or.inl hk)
      have y1 := HC2.out _ _ S4'
      clear hcb c0 S3 S4
      go_wp2_with fail
      refine (hcn.out _ _ F4).mono ?_
      rintro e w5 ⟨rfl, rfl⟩
      clear hcn
      go_wp2
      go_ret
      exact ⟨rfl, o4, F4, S4'⟩

end Go.Proofs.Ytijgilkpmkgbjaa
