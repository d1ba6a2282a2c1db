/- A block is shut. -/
import Derived.Test.YtanahbkkgppfnaaIdx
import Derived.Deep.LoopGhost
namespace Go.Proofs.Ytanahbkkgppfnaa
open Go.ChangeShapes Go.WideShapes Go.ChangeAt Go.RowKit
set_option linter.unusedVariables false

/-- The part of a row from a place on, only read. -/
theorem Row.vwFrom {w : World} {o : Nat → Nat} {i g cap r : Nat} {xs A B : List Nat} (h : Row w o i 3 1 (.slice (some ⟨g, 0, none⟩) xs.length cap) xs.length (intsL xs)) (hx : xs = A ++ B) (hb : 0 < B.length) : Vw w o i (.slice (some ⟨g, A.length, none⟩) B.length (cap - A.length)) B := by
  have hl : xs.length = A.length + B.length := by rw [hx]; simp
  obtain ⟨g', cap', hv', hg, hc, hm, hlt, hcell, hfr⟩ := h.pos (by omega)
  simp only [Value.slice.injEq, Option.some.injEq, Addr.mk.injEq, and_true, true_and] at hv'
  obtain ⟨rfl, rfl⟩ := hv'
  refine ⟨_, cap - A.length, rfl, by omega, by omega, fun _ => ⟨g, A.length, rfl, hg, hlt, fun j hj => ?_⟩⟩
  rw [hcell (A.length + j) (by omega), intsL_get xs (A.length + j) (by omega)]
  congr 3
  subst hx
  rw [List.getElem_append_right (by omega)]
  congr 1
  omega
/-- What shutting writes. -/
def SL (L : Nat) : Nat → Prop := fun k => L ≤ k ∧ k < L + 6
def blS (bl : Nat → Nat) (T : List Nat) (m : Nat) : Nat → Nat := fun x => if x ∈ T then m else bl x

set_option maxRecDepth 100000 in
theorem shut_w (w : World) (o : Nat → Nat) (L p n la : Nat) (es : List EdT) (s : Dst) (A B T : List Nat) (f : Nat) (h : Wm w o L p n la es s) (hn : n ≤ 64) (ho : s.op = A ++ T) (hT : T = f :: B) (hfA : f ∉ A) (hlt : ∀ x, x ∈ s.op → x < n) (hol : s.op.length ≤ 64) (hla : la < L) :
    Calls Try.prog 40 #[.pointer (some ⟨p, 0, none⟩), .int .i64 (f : Nat)] w fun e' w' => e' = .returned (.tuple #[]) ∧ ∃ o' m, m ∈ T ∧ (∀ x, x ∈ T → m ≤ x) ∧ Wm w' o' L p n la es { s with op := A, bl := fun x => if x ∈ T then m else s.bl x } ∧ Step (SL L) w o w' o' := by
  obtain ⟨gp, cp, gb, cb, vp, vo, ve, vr, vs, h1, h2, h3, h4, h5, h6, h7, h8⟩ := h
  obtain ⟨c0, c1, c2, c3, c4, c5, c6, hf⟩ := h1.cells7
  have hl : s.op.length = A.length + T.length := by rw [ho]; simp
  have hT0 : 0 < T.length := by rw [hT]; simp
  obtain ⟨go, co, rfl, hgo, hco, hcm, hgl, _, _⟩ := h5.pos (by omega)
  have V5 := h5.vw
  have V6 := h5.vwFrom (r := 0) ho hT0
  have hix := index_w w o (L + 3) _ s.op A B f V5 (by rw [ho, hT]) hfA (by omega)
  have hmi := min_w w o (L + 3) _ T V6 hT0 (by omega)
  have KK : Hid (Wk w o L p n la es s gp cp gb cb vp (.slice (some ⟨go, 0, none⟩) s.op.length co) ve vr vs) := ⟨h1, h2, h3, h4, h5, h6, h7, h8⟩
  have hcn : ¬ (co = A.length) := by omega
  have hle : A.length ≤ co := by omega
  have hsub : A.length + T.length - A.length = T.length := by omega
  have hcap : A.length + T.length ≤ co := by omega
  have hTn : T.length ≤ 64 := by omega
  have HT : Hid (∀ x, x ∈ T → x < n) := fun x hx => hlt x (by rw [ho]; exact List.mem_append_right _ hx)
  have HO : Hid (s.op = A ++ T) := ho
  have HN : Hid (s.op.length = A.length + T.length) := hl
  rw [hl] at c3 hix KK
  unfold maxLen at hcm
  clear h1 h2 h3 h4 h5 h6 h7 h8 V5 V6 hl ho hlt hT hfA hol hco
  go_enter Try.func40, Try.ntmps40
  go_wp2_with fail
  refine hix.mono ?_
  rintro e w1 ⟨rfl, rfl⟩
  clear hix
  go_wp2_with fail
  refine hmi.mono ?_
  rintro e w2 ⟨m, rfl, hm1, hm2, rfl⟩
  have HM : Hid (m ∈ T ∧ ∀ x, x ∈ T → m ≤ x) := ⟨hm1, hm2⟩
  clear hmi hm1 hm2
  have START : ∃ o', Wk w2 o' L p n la es { s with bl := blS s.bl (T.take 0) m } gp cp gb cb vp (.slice (some ⟨go, 0, none⟩) (A.length + T.length) co) ve vr vs ∧ Step (SL L) w2 o w2 o' := by
    refine ⟨o, ?_, Step.refl _ _ _⟩
    have e : blS s.bl (T.take 0) m = s.bl := by funext x; simp [blS]
    rw [e]; exact KK.out
  clear KK
  go_wp2_with fail
  clear c0 c1 c2 c3 c4 c5 c6 hf
  go_loopg [28] T.length (fun gh vi wr => ∃ k o', k ≤ T.length ∧ gh = T.length - k ∧ vi = .int .i64 (k : Nat) ∧ Wk wr o' L p n la es { s with bl := blS s.bl (T.take k) m } gp cp gb cb vp (.slice (some ⟨go, 0, none⟩) (A.length + T.length) co) ve vr vs ∧ Step (SL L) w2 o wr o')
  case atStart => obtain ⟨o', a, b⟩ := START; exact ⟨0, o', by omega, by omega, by go_num, a, b⟩
  case round =>
    clear START
    obtain ⟨k, o', hk, rfl, rfl, K, sK⟩ := hrel
    obtain ⟨h1, h2, h3, h4, h5, h6, h7, h8⟩ := K
    obtain ⟨c0, c1, c2, c3, c4, c5, c6, hf⟩ := h1.cells7
    by_cases hkn : k < T.length
    · have hx0 := HT.out _ (List.getElem_mem hkn)
      replace h5 : Row wr o' (L + 3) 3 1 (.slice (some ⟨go, 0, none⟩) (A.length + T.length) co) s.op.length (intsL s.op) := h5
      have V : Vw wr o' (L + 3) (.slice (some ⟨go, A.length, none⟩) T.length (co - A.length)) T := by
        have h5' := h5
        rw [← HN.out] at h5'
        exact h5'.vwFrom (r := 0) HO.out hT0
      obtain ⟨ao', cap', hvv, _, _, hpp⟩ := V
      simp only [Value.slice.injEq, true_and] at hvv
      obtain ⟨rfl, hcc⟩ := hvv
      clear hcc
      obtain ⟨gx, offx, hxx, _, _, hcx⟩ := hpp hT0
      simp only [Option.some.injEq, Addr.mk.injEq, and_true] at hxx
      obtain ⟨rfl, rfl⟩ := hxx
      have cx := hcx k hkn
      obtain ⟨g8, cap8, hv8, hg8, hc8, hm8, hlt8, hcell8, hfr8⟩ := h8.pos (by omega)
      simp only [Value.slice.injEq, Option.some.injEq, Addr.mk.injEq, and_true, true_and] at hv8
      obtain ⟨rfl, rfl⟩ := hv8
      have cb0 := (hcell8 T[k] (by omega)).trans (natsF_get _ hx0)
      have NEXT : Wk (wr.setCell ⟨gb, T[k], none⟩ (.int .i64 (m : Nat))) o' L p n la es { s with bl := blS s.bl (T.take (k + 1)) m } gp cp gb cb vp (.slice (some ⟨go, 0, none⟩) (A.length + T.length) co) ve vr vs ∧ Step (SL L) w2 o (wr.setCell ⟨gb, T[k], none⟩ (.int .i64 (m : Nat))) o' := by
        have s8 : Step (fun k => k = L + 5) wr o' (wr.setCell ⟨gb, T[k], none⟩ (.int .i64 (m : Nat))) o' := setStep _ wr o' ⟨gb, T[k], none⟩ _ hg8
        have hb := h8.store T[k] (.int .i64 (m : Nat))
        rw [natsF_set _ hx0] at hb
        have ee : (fun w => if w = T[k] then m else blS s.bl (T.take k) m w) = blS s.bl (T.take (k + 1)) m := by
          funext x
          simp only [blS, List.take_succ_eq_append_getElem hkn, List.mem_append, List.mem_singleton]
          by_cases q : x = T[k]
          · simp [q]
          · by_cases q2 : x ∈ T.take k <;> simp [q, q2]
        rw [ee] at hb
        exact ⟨⟨h1.step s8 (by omega), h2.step s8 (by omega), fun x hx => (h3 x hx).step s8 (by omega), h4.step s8 (by omega), h5.step s8 (by omega), h6.step s8 (by omega), h7.step s8 (by omega), hb⟩, sK.trans (s8.mono fun _ h => ⟨by omega, by omega⟩)⟩
      have NX : Hid (Wk (wr.setCell ⟨gb, T[k], none⟩ (.int .i64 (m : Nat))) o' L p n la es { s with bl := blS s.bl (T.take (k + 1)) m } gp cp gb cb vp (.slice (some ⟨go, 0, none⟩) (A.length + T.length) co) ve vr vs ∧ Step (SL L) w2 o (wr.setCell ⟨gb, T[k], none⟩ (.int .i64 (m : Nat))) o') := NEXT
      clear NEXT h1 h2 h3 h4 h5 h6 h7 h8 hcell8 hcx hpp sK
      generalize T[k] = x at NX cx cb0 hx0
      generalize hbx : ({ s with bl := blS s.bl (T.take k) m } : Dst).bl x = bx at cb0
      have hxI : (x : Int) < (n : Int) := by omega
      have hkI : (k : Int) < (T.length : Int) := by omega
      clear hbx
      go_wp2
      go_roundg (T.length - (k + 1))
      case measure => omega
      case rel => exact ⟨k + 1, o', by omega, rfl, by go_num, NX.out.1, NX.out.2⟩
    · obtain rfl : k = T.length := by omega
      have hkI : ¬ ((T.length : Int) < (T.length : Int)) := by omega
      have s9 := h1.stp2 3 (.slice (some ⟨go, 0, none⟩) A.length co)
      have RES : ∃ o' m, m ∈ T ∧ (∀ x, x ∈ T → m ≤ x) ∧ Wm (wr.setCell ⟨p, 3, none⟩ (.slice (some ⟨go, 0, none⟩) A.length co)) o' L p n la es { s with op := A, bl := fun x => if x ∈ T then m else s.bl x } ∧ Step (SL L) w2 o (wr.setCell ⟨p, 3, none⟩ (.slice (some ⟨go, 0, none⟩) A.length co)) o' := by
        refine ⟨o', m, HM.out.1, HM.out.2, ⟨gp, cp, gb, cb, vp, .slice (some ⟨go, 0, none⟩) A.length co, ve, vr, vs, ?_, h2.step s9 (by omega), fun x hx => (h3 x hx).step s9 (by omega), h4.step s9 (by omega), ?_, h6.step s9 (by omega), h7.step s9 (by omega), ?_⟩, sK.trans (s9.mono fun _ h => ⟨by omega, by omega⟩)⟩
        · have := h1.set 3 (.slice (some ⟨go, 0, none⟩) A.length co)
          simp only [List.setIfInBounds_toArray, List.set_cons_succ, List.set_cons_zero] at this
          exact this
        · have h5' : Row wr o' (L + 3) 3 1 (.slice (some ⟨go, 0, none⟩) (A.length + T.length) co) (A.length + T.length) (intsL s.op) := by
            have : Row wr o' (L + 3) 3 1 (.slice (some ⟨go, 0, none⟩) (A.length + T.length) co) s.op.length (intsL s.op) := h5
            rw [HN.out] at this; exact this
          have := (h5'.cut A.length (by omega)).step s9 (by omega)
          rw [HO.out, intsL_append, Nat.mul_one, List.take_append_of_le_length (by rw [intsL_len]; omega), List.take_of_length_le (by rw [intsL_len]; omega)] at this
          exact this
        · have := h8.step s9 (by omega)
          rw [List.take_length] at this
          exact this
      clear h1 h2 h3 h4 h5 h6 h7 h8 s9 sK
      go_wp2
      go_end0
      exact ⟨rfl, RES⟩
end Go.Proofs.Ytanahbkkgppfnaa
