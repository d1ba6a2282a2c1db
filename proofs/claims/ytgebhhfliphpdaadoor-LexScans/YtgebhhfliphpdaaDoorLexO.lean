/- isthmusref11: the sign, the token that begins at a place. -/
import Derived.Test.YtgebhhfliphpdaaDoorLexZ
namespace Go.Proofs.YtgebhhfliphpdaaDoor
open Go.ChangeShapes Go.WideShapes Go.ChangeAt Go.RowKit
set_option linter.unusedVariables false

theorem two_list (s : ByteArray) (h : 1 < s.size) : (s.extract 0 2).data.toList = [s[0], s[1]] := by
  rw [cut_list]
  have hl := data_len s
  have e : s.data.toList.take 2 = [s.data.toList[0]'(by omega), s.data.toList[1]'(by omega)] := by
    rw [List.take_add_one, List.take_add_one, List.take_zero, List.getElem?_eq_getElem (by omega), List.getElem?_eq_getElem (by omega)]
    rfl
  rw [e, data_get s 0 (by omega), data_get s 1 h]
theorem cons_list (s : ByteArray) (h : 0 < s.size) : s.data.toList = s[0] :: s.data.toList.drop 1 := by
  have hl := data_len s
  have := drop_at s.data.toList 0 (by omega)
  rw [List.drop_zero, data_get s 0 h] at this
  exact this
theorem sign_r (s : ByteArray) (w : World) (h0 : 0 < s.size) (hs : s.size ≤ 2000) :
    Calls Tryd.prog 30 #[.string s] w fun e w' => e = .returned (.string ⟨(sgnU s.data.toList).toArray⟩) ∧ Below w.heap.size w w' := by
  have hl := data_len s
  have hcl := cons_list s h0
  by_cases h2 : 1 < s.size ∧ ((s[0]'h0).toNat = 33 ∨ (s[0]'h0).toNat = 60) ∧ (s.data.toList.drop 1).head? = some 61
  · obtain ⟨h1, h3, h4⟩ := h2
    have hu : sgnU s.data.toList = [s[0], 61] := by
      rw [hcl]
      unfold sgnU
      simp only
      rw [if_pos ⟨h3, h4⟩]
    have h5 : s[1]'h1 = 61 := by
      rw [List.head?_drop, List.getElem?_eq_getElem (by omega), data_get s 1 h1] at h4
      injection h4
    have htl := two_list s h1
    rw [h5] at htl
    have hR : s.extract 0 2 = ⟨(sgnU s.data.toList).toArray⟩ := by
      rw [hu, ← htl, back_text]
    have HR := Lib.hid hR
    have h1I : (1 : Int) < (s.size : Int) := by omega
    have h2I : (2 : Int) ≤ (s.size : Int) := by omega
    rcases h3 with h3 | h3
    · have hc : s[0]'h0 = 33 := UInt8.toNat.inj h3
      rw [hc] at htl
      have hA : (s.extract 0 2).toList = [33, 61] := by rw [ByteArray.toList_eq]; exact htl
      clear hcl hu hR htl hl hc h3 h4 h5
      go_enter Tryd.func30, Tryd.ntmps30
      go_wp2
      go_ret
      exact ⟨by rw [← HR.out]; rfl, b0 _⟩
    · have hc : s[0]'h0 = 60 := UInt8.toNat.inj h3
      rw [hc] at htl
      have hA : (s.extract 0 2).toList = [60, 61] := by rw [ByteArray.toList_eq]; exact htl
      clear hcl hu hR htl hl hc h3 h4 h5
      go_enter Tryd.func30, Tryd.ntmps30
      go_wp2
      go_ret
      exact ⟨by rw [← HR.out]; rfl, b0 _⟩
  · refine sign_loop s w h0 hs ?_ _ ?_
    · by_cases h1 : 1 < s.size
      · right
        have htl := two_list s h1
        have hh : (s.data.toList.drop 1).head? = some s[1] := by rw [List.head?_drop, List.getElem?_eq_getElem (by omega), data_get s 1 h1]
        refine ⟨h1, ?_, ?_⟩
        · intro e
          rw [ByteArray.toList_eq, htl] at e
          injection e with e1 e2
          injection e2 with e2 _
          exact h2 ⟨h1, .inl (by rw [e1]; rfl), by rw [hh, e2]⟩
        · intro e
          rw [ByteArray.toList_eq, htl] at e
          injection e with e1 e2
          injection e2 with e2 _
          exact h2 ⟨h1, .inr (by rw [e1]; rfl), by rw [hh, e2]⟩
      · left
        omega
    · have hu : sgnU s.data.toList = if sgn (s[0]'h0).toNat = true ∧ (s[0]'h0).toNat ≠ 33 then [s[0]] else [] := by
        rw [hcl]
        unfold sgnU
        simp only
        rw [if_neg]
        rintro ⟨h3, h4⟩
        refine h2 ⟨?_, h3, h4⟩
        rw [List.head?_drop] at h4
        by_cases h1 : 1 < s.size
        · exact h1
        · rw [List.getElem?_eq_none (by omega)] at h4
          cases h4
      by_cases h3 : sgn (s[0]'h0).toNat = true ∧ (s[0]'h0).toNat ≠ 33
      · left
        rw [hu, if_pos h3]
        refine ⟨(sgA_sgn _).1 h3, ?_⟩
        rw [ext_eq, hcl]
        rfl
      · right
        rw [hu, if_neg h3]
        refine ⟨fun i hi e => h3 ((sgA_sgn _).2 ⟨i, hi, e⟩), rfl⟩
/-- What token answers. -/
def TokPost (l : List UInt8) (at0 : Nat) (e : Ending) : Prop :=
  (∃ er : Nat, e = .returned (.tuple #[.agg #[.int .i64 0, .int .i64 0, .string ⟨#[]⟩, .int .i64 0], .int .i64 0, .int .i64 (er : Nat)]) ∧ lexL 0 [] at0 at0 (l.drop at0) = .inl (er, at0) ∧ er ≠ 0) ∨
  (∃ (x : Tk) (nx : Nat), e = .returned (.tuple #[.agg (tka x), .int .i64 (nx : Nat), .int .i64 0]) ∧ at0 < nx ∧ nx ≤ l.length ∧ lexL 0 [] at0 at0 (l.drop at0) = consR x (lexL 0 [] nx nx (l.drop nx)))
theorem tok3_end {fn : Func} {p u v : Tmp} (h : fn.results = #[.cell p 29, .tmp u, .tmp v]) (tmps : Array Value) (w : World) (g : Nat) (v0 v1 v2 v3 : Value) (t : TypeId) (fr : Nat × Nat)
    (hp : tmps.getD p undef = .pointer (some ⟨g, 0, none⟩)) (hg : w.heap[g]? = some (.cells #[v0, v1, v2, v3] t fr)) :
    (results fn tmps).run Tryd.prog w = .ok (.tuple #[.agg #[v0, v1, v2, v3], tmps.getD u undef, tmps.getD v undef]) w := by
  have hl := run_loadVar_row (P := Tryd.prog) w g t 29 #[v0, v1, v2, v3] fr _ hg Tryd.underlying29 rfl (by kernel_rfl)
  have hp' : tmps[p]?.getD undef = .pointer (some ⟨g, 0, none⟩) := by simpa using hp
  simp [results, h, hp', asAddr, hl, Result.andThen]
/-- The room for a token, in a world that has grown since. -/
theorem one_box {w w1 : World} {A : Obj} (h : Below (w.alloc A).heap.size (w.alloc A) w1) : w1.heap[w.heap.size]? = some A ∧ Below w.heap.size w w1 := by
  refine ⟨?_, (b1 _ _).trans (h.mono (by simp))⟩
  rw [h.block _ (by simp)]
  exact heap_alloc_new _ _
end Go.Proofs.YtgebhhfliphpdaaDoor
