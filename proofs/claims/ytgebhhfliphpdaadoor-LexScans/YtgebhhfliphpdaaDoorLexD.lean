/- The laws' own 'said': a token's text, cut out of the text it was read of. -/
import Derived.Test.YtgebhhfliphpdaaDoorAloneWalk
import Derived.Test.YtgebhhfliphpdaaDoorLexB
namespace Go.Proofs.YtgebhhfliphpdaaDoor
open Go.ChangeShapes Go.WideShapes Go.ChangeAt Go.RowKit
set_option linter.unusedVariables false

theorem Tks.form {w : World} {v : Value} {ts : List Tk} (h : Tks w v ts) : ∃ ao cap, v = .slice ao ts.length cap := by
  obtain ⟨ao, cap, h, _⟩ := h
  exact ⟨ao, cap, h⟩
/-- What is read of one token of a slice that is spelled out. -/
theorem Tks.cells {w : World} {ao : Option Addr} {n cap : Nat} {ts : List Tk} (h : Tks w (.slice ao n cap) ts) (i : Nat) (hi : i < ts.length) : ∃ g, ao = some ⟨g, 0, none⟩ ∧
    w.cell? ⟨g, i * 4, none⟩ = some (.int .i64 ((ts[i]).k : Nat)) ∧ w.cell? ⟨g, i * 4 + 1, none⟩ = some (.int .i64 (ts[i]).n) ∧ w.cell? ⟨g, i * 4 + 2, none⟩ = some (.string ⟨(ts[i]).t.toArray⟩) ∧ w.cell? ⟨g, i * 4 + 3, none⟩ = some (.int .i64 ((ts[i]).a : Nat)) := by
  obtain ⟨g, c, e, p⟩ := h.at i hi
  injection e with e1 _ _
  exact ⟨g, e1, p⟩
theorem mk_list (l : List UInt8) : (⟨l.toArray⟩ : ByteArray).data.toList = l := by simp
theorem mk_size (l : List UInt8) : (⟨l.toArray⟩ : ByteArray).size = l.length := by show l.toArray.size = _; simp
theorem piece_text (s : ByteArray) (xa ya : Nat) (u b r : List UInt8) (h : s.data.toList.drop xa = u ++ (b ++ r)) (hy : ya = xa + u.length + b.length) : s.extract xa ya = ⟨(u ++ b.take b.length).toArray⟩ := by
  rw [ext_eq, h, hy]
  congr 2
  have e : xa + u.length + b.length - xa = (u ++ b).length := by simp; omega
  rw [e, ← List.append_assoc, List.take_left, List.take_length]
theorem blk_no {c : Nat} (h : blk c = false) : (¬ (c : Int) = 32) ∧ (¬ (c : Int) = 9) ∧ (¬ (c : Int) = 10) ∧ (¬ (c : Int) = 13) := by
  simp [blk] at h
  omega
theorem blk_yes {c : Nat} (h : blk c = true) : c = 32 ∨ c = 9 ∨ c = 10 ∨ c = 13 := by simpa [blk, or_assoc] using h
set_option maxRecDepth 100000 in
set_option maxHeartbeats 1000000 in
theorem said_c (s : ByteArray) (w : World) (v : Value) (ts : List Tk) (i : Nat) (hT : Tks w v ts) (hi : i + 1 < ts.length) (hn : ts.length ≤ 2001) (hs : s.size ≤ 2000) (k : Nat) (u b r : List UInt8) (hP : Pce k u) (hd : s.data.toList.drop (ts[i]'(by omega)).a = u ++ (b ++ r)) (hb : ∀ c, c ∈ b → blk c.toNat = true)
    (hy : (ts[i + 1]).a = (ts[i]'(by omega)).a + u.length + b.length) (hle : (ts[i + 1]).a ≤ s.size) :
    Calls Tryd.prog 16 #[.string s, v, .int .i64 (i : Nat)] w fun e w' => e = .returned (.string ⟨u.toArray⟩) ∧ w' = w := by
  obtain ⟨g, cap, rfl, -, -, -, c1⟩ := hT.at i (by omega)
  obtain ⟨g', cap', e, -, -, -, c2⟩ := hT.at (i + 1) hi
  injection e with e1 _ e3
  injection e1 with e1
  injection e1 with e1
  subst e1 e3
  have htx := piece_text s _ _ u b r hd hy
  generalize (ts[i]'(by omega)).a = xa at *
  generalize (ts[i + 1]).a = ya at *
  generalize ts.length = N at *
  have hxy : (xa : Int) ≤ (ya : Int) := by omega
  have hys : (ya : Int) ≤ (s.size : Int) := by omega
  have hiN : (i : Int) < (N : Int) := by omega
  have hiN1 : (i : Int) + 1 < (N : Int) := by omega
  have HX := Lib.hid htx
  have HP := Lib.hid hP
  have HB := Lib.hid hb
  have hul : u.length + b.length ≤ 2000 := by omega
  clear htx hd hy hle hP hb
  go_enter Tryd.func16, Tryd.ntmps16
  go_wp2_with fail
  rw [HX.out]
  clear HX
  go_loopw [8] (fun v wr => ∃ n : Nat, n ≤ b.length ∧ v = .string ⟨(u ++ b.take n).toArray⟩ ∧ wr = w) (fun v _ => match v with | .string t => t.size | _ => 0)
  case atStart => exact ⟨b.length, by omega, rfl, rfl⟩
  case round =>
    obtain ⟨n, hnb, rfl, rfl⟩ := hrel
    have hpu := HP.out.pos
    obtain ⟨T, hTd⟩ : ∃ T : ByteArray, T = ⟨(u ++ b.take n).toArray⟩ := ⟨_, rfl⟩
    have hTl : T.data.toList = u ++ b.take n := by rw [hTd, mk_list]
    have hTs : T.size = u.length + n := by rw [hTd, mk_size]; simp; omega
    obtain ⟨k1, hk1⟩ : ∃ k1, k1 + 1 = T.size := ⟨T.size - 1, by omega⟩
    have hkb : k1 < T.size := by omega
    have hlast : (T[k1]'hkb) = (u ++ b.take n)[k1]'(by simp; omega) := by
      rw [← data_get T k1 hkb (by rw [hTl]; simp; omega)]
      simp only [hTl]
    cases n with
    | zero =>
      have hnb' : blk (T[k1]'hkb).toNat = false := by
        rw [hlast]
        have := HP.out.full k1 (by omega)
        simpa using this
      have hTu : T = ⟨u.toArray⟩ := by rw [hTd]; simp
      obtain ⟨h1, h2, h3, h4⟩ := blk_no hnb'
      have e1 : (((T[k1]'hkb).toNat : Int) == 32) = false := by simpa using h1
      have e2 : (((T[k1]'hkb).toNat : Int) == 9) = false := by simpa using h2
      have e3 : (((T[k1]'hkb).toNat : Int) == 10) = false := by simpa using h3
      have e4 : (((T[k1]'hkb).toNat : Int) == 13) = false := by simpa using h4
      have HTU := Lib.hid hTu
      rw [← hTd]
      have hs1 : T.size = k1 + 1 := by omega
      have hp0 : (0 : Int) < (k1 : Int) + 1 := by omega
      have hk1' : (k1 : Int) + 1 ≤ 2000 := by omega
      clear hTd hTl hTs hlast hnb' hTu hk1
      go_wp2
      go_ret
      exact ⟨congrArg (fun t => Ending.returned (.string t)) HTU.out, rfl⟩
    | succ n =>
      have hbl : blk (T[k1]'hkb).toNat = true := by
        rw [hlast, List.getElem_append_right (by omega)]
        apply HB.out
        exact List.mem_of_mem_take (List.getElem_mem _)
      have hcut : T.extract 0 k1 = ⟨(u ++ b.take n).toArray⟩ := by
        rw [ext_eq, hTl]
        congr 2
        rw [List.drop_zero, List.take_append]
        have e1 : k1 - 0 = u.length + n := by omega
        rw [e1, List.take_of_length_le (by omega), Nat.add_sub_cancel_left, List.take_take]
        congr 2
        omega
      have HC := Lib.hid hcut
      have hms : (T.extract 0 k1).size < T.size := by rw [hcut, mk_size]; simp; omega
      have hs1 : T.size = k1 + 1 := by omega
      have hp0 : (0 : Int) < (k1 : Int) + 1 := by omega
      have hk1' : (k1 : Int) + 1 ≤ 2000 := by omega
      have HM := Lib.hid hms
      have hyes := blk_yes hbl
      rw [← hTd]
      clear hTd hTl hTs hlast hbl hk1 hcut hms
      rcases hyes with hc | hc | hc | hc
      all_goals
        go_wp2
        go_roundw
        case rel => (try ((repeat apply Exists.intro); refine ⟨?_, rfl⟩)); exact ⟨n, by omega, by rw [HC.out], by trivial⟩
        case measure => exact HM.out
end Go.Proofs.YtgebhhfliphpdaaDoor
