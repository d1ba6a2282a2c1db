/- isthmusref11: the sign that begins a text. -/
import Derived.Test.YtgebhhfliphpdaaDoorLexY
import Derived.Deep.CutBlock
import Derived.Deep.DeepCutAuto
namespace Go.Proofs.YtgebhhfliphpdaaDoor
open Go.ChangeShapes Go.WideShapes Go.ChangeAt Go.RowKit
set_option linter.unusedVariables false

/-- The sign that begins a text; none: the empty one. -/
def sgnU (l : List UInt8) : List UInt8 :=
  match l with
  | [] => []
  | c :: r => if (c.toNat = 33 ∨ c.toNat = 60) ∧ r.head? = some 61 then [c, 61] else if sgn c.toNat = true ∧ c.toNat ≠ 33 then [c] else []
theorem sign_read (c : UInt8) (r : List UInt8) (q : Nat) (h1 : blk c.toNat = false) (h2 : ltr c.toNat = false) (h3 : dig c.toNat = false) :
    (sgnU (c :: r) = [] ∧ lexL 0 [] q q (c :: r) = .inl (110, q)) ∨ (sgnU (c :: r) ≠ [] ∧ (sgnU (c :: r)).length ≤ (c :: r).length ∧ lexL 0 [] q q (c :: r) = consR ⟨4, 0, sgnU (c :: r), q⟩ (lexL 0 [] (q + (sgnU (c :: r)).length) (q + (sgnU (c :: r)).length) ((c :: r).drop (sgnU (c :: r)).length))) := by
  cases h4 : sgn c.toNat
  · left
    have hc : cls c.toNat = 4 := by simp [cls, h1, h2, h3, h4]
    refine ⟨?_, ?_⟩
    · unfold sgnU
      simp only
      rw [if_neg, if_neg (by rw [h4]; simp)]
      rintro ⟨h5 | h5, _⟩ <;> (rw [h5] at h4; cases h4)
    · rw [lexL_no (k := 0) (by exact h1), hc, lexL_four]
      rfl
  · have hc : cls c.toNat = 3 := by simp [cls, h1, h2, h3, h4]
    by_cases h5 : (c.toNat = 33 ∨ c.toNat = 60) ∧ r.head? = some 61
    · right
      have hu : sgnU (c :: r) = [c, 61] := by
        unfold sgnU
        simp only
        rw [if_pos h5]
      obtain ⟨h6, h7⟩ := h5
      cases r with
      | nil => cases h7
      | cons d r' =>
        injection h7 with h7
        subst h7
        rw [hu]
        refine ⟨by simp, by simp, ?_⟩
        have hcc : c = 33 ∨ c = 60 := by
          rcases h6 with h6 | h6
          · exact .inl (UInt8.toNat.inj h6)
          · exact .inr (UInt8.toNat.inj h6)
        have hP : Pce 3 [c, 61] := by
          have h8 : Pce 3 [c] := by rw [← hc]; exact Pce.one c (by rw [hc]; omega)
          refine h8.more 61 ?_
          rcases hcc with rfl | rfl <;> rfl
        have hr := hP.reads q r' (fun d m _ => by
          rw [tks_sgn]
          rcases hcc with rfl | rfl <;> simp)
        show lexL 0 [] q q ([c, 61] ++ r') = _
        rw [hr]
        unfold shutP
        rw [if_neg (by omega)]
        have hs : ptok 3 [c, 61] q = .inr ⟨4, 0, [c, 61], q⟩ := by
          show sgnT [c, 61] q = _
          unfold sgnT
          rw [if_neg (by simp)]
        rw [hs]
        rfl
    · have h8 : Pce 3 [c] := by rw [← hc]; exact Pce.one c (by rw [hc]; omega)
      have hr := h8.reads q r (fun d m e => by
        subst e
        rw [tks_sgn]
        rw [← Bool.not_eq_true]
        intro hh
        simp only [Bool.and_eq_true, Bool.or_eq_true, beq_iff_eq, List.cons.injEq, and_true] at hh
        apply h5
        refine ⟨?_, ?_⟩
        · rcases hh.2 with h | h
          · left; rw [h]; rfl
          · right; rw [h]; rfl
        · show some d = some 61
          congr 1
          exact UInt8.toNat.inj hh.1)
      have hr' : lexL 0 [] q q (c :: r) = shutP 3 [c] q (lexL 0 [] (q + 1) (q + 1) r) := hr
      by_cases h33 : c.toNat = 33
      · left
        have hc33 : c = 33 := UInt8.toNat.inj h33
        refine ⟨?_, ?_⟩
        · unfold sgnU
          simp only
          rw [if_neg h5, if_neg (by simp [h33])]
        · rw [hr', hc33]
          rfl
      · right
        have hu : sgnU (c :: r) = [c] := by
          unfold sgnU
          simp only
          rw [if_neg h5, if_pos ⟨h4, h33⟩]
        rw [hu]
        refine ⟨by simp, by simp, ?_⟩
        rw [hr']
        unfold shutP
        rw [if_neg (by omega)]
        have hs : ptok 3 [c] q = .inr ⟨4, 0, [c], q⟩ := by
          show sgnT [c] q = _
          unfold sgnT
          rw [if_neg (by intro e; injection e with e _; rw [e] at h33; exact h33 rfl)]
        rw [hs]
        rfl
/-- The signs of one byte that stand alone. -/
def sgA (i : Nat) : Nat :=
  match i with
  | 0 => 40 | 1 => 41 | 2 => 123 | 3 => 125 | 4 => 44 | 5 => 58 | 6 => 64 | 7 => 43 | 8 => 45 | 9 => 42 | 10 => 47 | 11 => 37 | 12 => 61 | _ => 60
theorem sgA_sgn (r : Nat) : (sgn r = true ∧ r ≠ 33) ↔ ∃ i, i < 14 ∧ sgA i = r := by
  constructor
  · rintro ⟨h, h33⟩
    simp [sgn, or_assoc] at h
    rcases h with h | h | h | h | h | h | h | h | h | h | h | h | h | h | h
    · exact ⟨0, by omega, h.symm⟩
    · exact ⟨1, by omega, h.symm⟩
    · exact ⟨2, by omega, h.symm⟩
    · exact ⟨3, by omega, h.symm⟩
    · exact ⟨4, by omega, h.symm⟩
    · exact ⟨5, by omega, h.symm⟩
    · exact ⟨6, by omega, h.symm⟩
    · exact ⟨7, by omega, h.symm⟩
    · exact ⟨8, by omega, h.symm⟩
    · exact ⟨9, by omega, h.symm⟩
    · exact ⟨10, by omega, h.symm⟩
    · exact ⟨11, by omega, h.symm⟩
    · exact ⟨12, by omega, h.symm⟩
    · exact absurd h h33
    · exact ⟨13, by omega, h.symm⟩
  · rintro ⟨i, hi, rfl⟩
    match i, hi with
    | 0, _ => exact ⟨rfl, by decide⟩
    | 1, _ => exact ⟨rfl, by decide⟩
    | 2, _ => exact ⟨rfl, by decide⟩
    | 3, _ => exact ⟨rfl, by decide⟩
    | 4, _ => exact ⟨rfl, by decide⟩
    | 5, _ => exact ⟨rfl, by decide⟩
    | 6, _ => exact ⟨rfl, by decide⟩
    | 7, _ => exact ⟨rfl, by decide⟩
    | 8, _ => exact ⟨rfl, by decide⟩
    | 9, _ => exact ⟨rfl, by decide⟩
    | 10, _ => exact ⟨rfl, by decide⟩
    | 11, _ => exact ⟨rfl, by decide⟩
    | 12, _ => exact ⟨rfl, by decide⟩
    | 13, _ => exact ⟨rfl, by decide⟩
set_option maxHeartbeats 1000000 in
theorem sign_loop (s : ByteArray) (w : World) (h0 : 0 < s.size) (hs : s.size ≤ 2000) (hx : s.size ≤ 1 ∨ (1 < s.size ∧ ¬ (s.extract 0 2).toList = [33, 61] ∧ ¬ (s.extract 0 2).toList = [60, 61])) (R : ByteArray) (hR : (∃ i, i < 14 ∧ sgA i = (s[0]'h0).toNat) ∧ R = s.extract 0 1 ∨ (∀ i, i < 14 → sgA i ≠ (s[0]'h0).toNat) ∧ R = ⟨#[]⟩) :
    Calls Tryd.prog 30 #[.string s] w fun e w' => e = .returned (.string R) ∧ Below w.heap.size w w' := by
  have HR := Lib.hid hR
  have hb : (s[0]'h0).toNat < 256 := UInt8.toNat_lt _
  have h0I : (0 : Int) < (s.size : Int) := by omega
  have h1s : (1 : Int) ≤ (s.size : Int) := by omega
  clear hR
  rcases hx with hx | ⟨hx0, hx1, hx2⟩
  · have h1I : ¬ (1 : Int) < (s.size : Int) := by omega
    go_enter Tryd.func30, Tryd.ntmps30
    go_upto_region 4 with fail
    obtain ⟨A, hA⟩ : ∃ A : ByteArray, A = ⟨#[40, 41, 123, 125, 44, 58, 64, 43, 45, 42, 47, 37, 61, 60]⟩ := ⟨_, rfl⟩
    rw [← hA]
    have hAs : A.size = 14 := by rw [hA]; rfl
    have HAA : Hid (∀ i (h : i < A.size), (A[i]).toNat = sgA i) := by
      intro i h
      subst hA
      match i, h with
      | 0, _ => rfl
      | 1, _ => rfl
      | 2, _ => rfl
      | 3, _ => rfl
      | 4, _ => rfl
      | 5, _ => rfl
      | 6, _ => rfl
      | 7, _ => rfl
      | 8, _ => rfl
      | 9, _ => rfl
      | 10, _ => rfl
      | 11, _ => rfl
      | 12, _ => rfl
      | 13, _ => rfl
    clear hA
    go_wp2_with fail
    go_loopw [4] (fun v wr => ∃ k m : Nat, v = .int .i64 (k : Nat) ∧ k ≤ 14 ∧ (∀ j, j < k → sgA j ≠ (s[0]'h0).toNat) ∧ wr = w.drewN m) (fun v _ => 14 - (intOf v).toNat)
    case atStart => exact ⟨0, 0, by go_num, by omega, fun j h => by omega, rfl⟩
    case round =>
      obtain ⟨k, m, rfl, hk, hin, rfl⟩ := hrel
      by_cases hlt : k < 14
      · have hkI : (k : Int) < 14 := by omega
        have hkA : k < A.size := by omega
        have hak := HAA.out k hkA
        by_cases he : sgA k = (s[0]'h0).toNat
        · have hRR : R = s.extract 0 1 := by
            rcases HR.out with ⟨_, h⟩ | ⟨h, _⟩
            · exact h
            · exact absurd he (h k hlt)
          have HRR := Lib.hid hRR
          rw [he] at hak
          clear hRR hin he
          go_wp2
          go_quiet (fail)
          go_wp2
          go_ret
          exact ⟨by rw [HRR.out]; rfl, bdr (b0 _) _⟩
        · have hakI : ((A[k]'hkA).toNat : Int) ≠ ((s[0]'h0).toNat : Int) := by omega
          have hakB : (((A[k]'hkA).toNat : Int) == ((s[0]'h0).toNat : Int)) = false := by simpa using hakI
          have hakB2 : ((A[k]'hkA).toNat == (s[0]'h0).toNat) = false := by simp; omega
          have RL : ∀ j, j < k + 1 → sgA j ≠ (s[0]'h0).toNat := fun j h => by
            by_cases e : j = k
            · subst e; exact he
            · exact hin j (by omega)
          clear hin he hak
          go_wp2
          go_quiet (fail)
          rename_i nq
          go_wp2
          go_roundw
          case rel => (try ((repeat apply Exists.intro); refine ⟨?_, rfl⟩)); exact ⟨k + 1, m + nq, by go_num, by omega, RL, by first | trivial | rw [World.drewN_drewN] | simp⟩
          case measure => simp [intOf]; omega
      · obtain rfl : k = 14 := by omega
        have hRR : R = ⟨#[]⟩ := by
          rcases HR.out with ⟨⟨i, h1, h2⟩, _⟩ | ⟨_, h⟩
          · exact absurd h2 (hin i h1)
          · exact h
        have HRR := Lib.hid hRR
        clear hRR hin
        go_wp2
        go_ret
        exact ⟨by rw [HRR.out]; rfl, bdr (b0 _) _⟩
  · have h1I : (1 : Int) < (s.size : Int) := by omega
    have h2I : (2 : Int) ≤ (s.size : Int) := by omega
    have x1 : ((s.extract 0 2).toList == [33, 61]) = false := beq_eq_false_iff_ne.2 hx1
    have x2 : ((s.extract 0 2).toList == [60, 61]) = false := beq_eq_false_iff_ne.2 hx2
    go_enter Tryd.func30, Tryd.ntmps30
    go_upto_region 4 with fail
    obtain ⟨A, hA⟩ : ∃ A : ByteArray, A = ⟨#[40, 41, 123, 125, 44, 58, 64, 43, 45, 42, 47, 37, 61, 60]⟩ := ⟨_, rfl⟩
    rw [← hA]
    have hAs : A.size = 14 := by rw [hA]; rfl
    have HAA : Hid (∀ i (h : i < A.size), (A[i]).toNat = sgA i) := by
      intro i h
      subst hA
      match i, h with
      | 0, _ => rfl
      | 1, _ => rfl
      | 2, _ => rfl
      | 3, _ => rfl
      | 4, _ => rfl
      | 5, _ => rfl
      | 6, _ => rfl
      | 7, _ => rfl
      | 8, _ => rfl
      | 9, _ => rfl
      | 10, _ => rfl
      | 11, _ => rfl
      | 12, _ => rfl
      | 13, _ => rfl
    clear hA
    go_wp2_with fail
    go_loopw [4] (fun v wr => ∃ k m : Nat, v = .int .i64 (k : Nat) ∧ k ≤ 14 ∧ (∀ j, j < k → sgA j ≠ (s[0]'h0).toNat) ∧ wr = w.drewN m) (fun v _ => 14 - (intOf v).toNat)
    case atStart => exact ⟨0, 0, by go_num, by omega, fun j h => by omega, rfl⟩
    case round =>
      obtain ⟨k, m, rfl, hk, hin, rfl⟩ := hrel
      by_cases hlt : k < 14
      · have hkI : (k : Int) < 14 := by omega
        have hkA : k < A.size := by omega
        have hak := HAA.out k hkA
        by_cases he : sgA k = (s[0]'h0).toNat
        · have hRR : R = s.extract 0 1 := by
            rcases HR.out with ⟨_, h⟩ | ⟨h, _⟩
            · exact h
            · exact absurd he (h k hlt)
          have HRR := Lib.hid hRR
          rw [he] at hak
          clear hRR hin he
          go_wp2
          go_quiet (fail)
          go_wp2
          go_ret
          exact ⟨by rw [HRR.out]; rfl, bdr (b0 _) _⟩
        · have hakI : ((A[k]'hkA).toNat : Int) ≠ ((s[0]'h0).toNat : Int) := by omega
          have hakB : (((A[k]'hkA).toNat : Int) == ((s[0]'h0).toNat : Int)) = false := by simpa using hakI
          have hakB2 : ((A[k]'hkA).toNat == (s[0]'h0).toNat) = false := by simp; omega
          have RL : ∀ j, j < k + 1 → sgA j ≠ (s[0]'h0).toNat := fun j h => by
            by_cases e : j = k
            · subst e; exact he
            · exact hin j (by omega)
          clear hin he hak
          go_wp2
          go_quiet (fail)
          rename_i nq
          go_wp2
          go_roundw
          case rel => (try ((repeat apply Exists.intro); refine ⟨?_, rfl⟩)); exact ⟨k + 1, m + nq, by go_num, by omega, RL, by first | trivial | rw [World.drewN_drewN] | simp⟩
          case measure => simp [intOf]; omega
      · obtain rfl : k = 14 := by omega
        have hRR : R = ⟨#[]⟩ := by
          rcases HR.out with ⟨⟨i, h1, h2⟩, _⟩ | ⟨_, h⟩
          · exact absurd h2 (hin i h1)
          · exact h
        have HRR := Lib.hid hRR
        clear hRR hin
        go_wp2
        go_ret
        exact ⟨by rw [HRR.out]; rfl, bdr (b0 _) _⟩
end Go.Proofs.YtgebhhfliphpdaaDoor
