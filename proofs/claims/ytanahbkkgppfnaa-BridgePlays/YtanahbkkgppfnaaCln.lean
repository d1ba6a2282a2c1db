/- slices.Clone of numbers; the same numbers? -/
import Derived.Test.YtanahbkkgppfnaaAdj
import Derived.Lib.SliceRun
namespace Go.Proofs.Ytanahbkkgppfnaa
open Go.ChangeShapes Go.WideShapes Go.ChangeAt Go.RowKit
set_option linter.unusedVariables false

set_option maxRecDepth 100000 in
theorem clone_w (w : World) (o : Nat → Nat) (i lb : Nat) (v : Value) (B : List Nat) (h : Row w o i 3 1 v B.length (intsL B)) (hl : B.length ≤ 1000) :
    Calls Try.prog 27 #[v] w fun e w' => ∃ v' o', e = .returned v' ∧ Row w' o' lb 3 1 v' B.length (intsL B) ∧ Step (fun k => k = lb) w o w' o' := by
  obtain ⟨ii, hii, hzi0, hzi1, hzi2⟩ := info_parts infoInt
  have hnil : ∀ (W : World) (a : Option Addr) (n c : Nat), (binOp .eql 38 (.slice a n c) (.slice none 0 0)).run Try.prog W = .ok (.bool a.isNone) W := fun W a n c => Lib.run_eql_slice_nil W _ _ a n c 0 0 Try.underlying38
  by_cases h0 : B.length = 0
  · have hB := List.length_eq_zero_iff.1 h0
    subst hB
    obtain ⟨ao, cap, rfl⟩ := h.form
    cases ao with
    | none =>
      clear h
      go_enter Try.func27, Try.ntmps27
      go_wp2
      go_ret
      exact ⟨_, o, rfl, Row.nil _ _ _ _ _, Step.refl _ _ _⟩
    | some a =>
      clear h
      go_enter Try.func27, Try.ntmps27
      go_wp2
      go_ret
      exact ⟨_, newLab w o lb, rfl, Row.made (X := #[]) rfl rfl (by unfold maxLen; omega), newStep _ w o lb _⟩
  · obtain ⟨g, cap, rfl, hg, hc, hm, hlt, hcell, hfr⟩ := h.pos (by omega)
    have s0 := newStep (fun _ => False) w o lb (.cells #[] 3)
    have R0 : Row (w.alloc (.cells #[] 3)) (newLab w o lb) lb 3 1 (.slice (some ⟨w.heap.size, 0, none⟩) 0 0) 0 [] := Row.made (X := #[]) rfl rfl (by unfold maxLen; omega)
    have hnews : ∀ j u, (intsL B)[j]? = some u → (w.alloc (.cells #[] 3)).cell? ((⟨g, 0, none⟩ : Addr).add j) = some u := fun j u hj => by
      have hjl := (List.getElem?_eq_some_iff.1 hj).1
      rw [intsL_len] at hjl
      have h1 := hcell j (by omega)
      rw [hj] at h1
      have h2 : (w.alloc (.cells #[] 3)).cell? ⟨g, j, none⟩ = w.cell? ⟨g, j, none⟩ := s0.cell hlt (fun h => h) j
      have h3 : ((⟨g, 0, none⟩ : Addr).add j) = ⟨g, j, none⟩ := by simp [Addr.add]; exact Eq.symm
      rw [h3, h2]; exact h1
    have hone : ∀ u ∈ intsL B, u.oneCell' = true := fun u hu => by
      obtain ⟨x, _, rfl⟩ := List.mem_map.1 hu; rfl
    clear hcell
    go_enter Try.func27, Try.ntmps27
    go_wp2_with (first | (at_builtin; refine wpList_append_lab rfl (.tmp 5) (.tmp 6) 38 rfl 3 ii (.int .i64 0) 1 8 Try.underlying38 hii hzi0 hzi1 hzi2 rfl (by decide) _ lb _ 0 [] rfl R0 ⟨g, 0, none⟩ B.length cap (intsL B) rfl ?c1 hnews hone (by omega) ?c3 ?c4 ?_) | go_in)
    case c1 => rw [intsL_len]; omega
    case c3 => unfold maxLen; omega
    case c4 => omega
    intro g7 c7 w7 o7 r7 s7
    have HS : Hid (Step (fun k => k = lb) w o w7 o7 ∧ Row w7 o7 lb 3 1 (.slice (some ⟨g7, 0, none⟩) (0 + B.length) c7) B.length (intsL B)) := by
      refine ⟨(s0.mono fun _ h => h.elim).trans s7, ?_⟩
      simp only [Nat.zero_add] at r7 ⊢
      exact r7
    clear s7 r7 s0 R0 hnews hone
    go_wp2
    go_ret
    exact ⟨_, o7, rfl, by simpa using HS.out.2, HS.out.1⟩

/-- Are the numbers the same? -/
theorem same_w (w : World) (o o2 : Nat → Nat) (i j : Nat) (va vb : Value) (xs ys : List Nat) (ha : Vw w o i va xs) (hb : Vw w o2 j vb ys) (hl : xs.length ≤ 4096) (hl2 : ys.length ≤ 4096) :
    Calls Try.prog 10 #[va, vb] w fun e w' => e = .returned (.bool (decide (xs = ys))) ∧ Step (fun _ => False) w o w' o := by
  obtain ⟨aa, ca, rfl, hca, hma, hpa⟩ := ha
  obtain ⟨ab, cb, rfl, hcb, hmb, hpb⟩ := hb
  unfold maxLen at hma hmb
  obtain ⟨r, hr⟩ : ∃ r, r = decide (xs = ys) := ⟨_, rfl⟩
  rw [← hr]
  have HR : Hid (r = decide (xs = ys)) := hr
  clear hr
  by_cases hln : xs.length = ys.length
  · have hbn : ((xs.length : Int) != (ys.length : Int)) = false := by simp [hln]
    go_enter Try.func10, Try.ntmps10
    go_wp2
    go_loopw [5] (fun v wr => ∃ k : Nat, k ≤ xs.length ∧ v = .int .i64 (k : Nat) ∧ (∀ j (h : j < k) (h1 : j < xs.length) (h2 : j < ys.length), xs[j] = ys[j]) ∧ ∃ m, wr = w.drewN m) (fun v _ => xs.length - (intOf v).toNat)
    case atStart => exact ⟨0, by omega, by go_num, fun j h => by omega, 0, rfl⟩
    case round =>
      obtain ⟨k, hk, rfl, heq, m, rfl⟩ := hrel
      by_cases hlt : k < xs.length
      · obtain ⟨ga, fa, rfl, _, _, hcella⟩ := hpa (by omega)
        obtain ⟨gb, fb, rfl, _, _, hcellb⟩ := hpb (by omega)
        have c1 := hcella k hlt
        have c2 := hcellb k (by omega)
        have hkI : (k : Int) < (xs.length : Int) := by omega
        have hkI2 : (k : Int) < (ys.length : Int) := by omega
        by_cases hxy : xs[k] = ys[k]
        · have HN : Hid (∀ j (h : j < k + 1) (h1 : j < xs.length) (h2 : j < ys.length), xs[j] = ys[j]) := fun j h h1 h2 => by
            by_cases q : j = k
            · subst q; exact hxy
            · exact heq j (by omega) h1 h2
          rw [← hxy] at c2
          generalize xs[k] = x at c1 c2
          clear hpa hpb hcella hcellb heq hxy
          go_wp2
          go_quiet (fail)
          go_wp2
          go_roundw
          case rel => (try ((repeat apply Exists.intro); refine ⟨?_, rfl⟩)); exact ⟨k + 1, by omega, by go_num, HN.out, _, rfl⟩
          case measure => simp [intOf]; omega
        · have hd : decide (xs = ys) = false := by
            rw [decide_eq_false_iff_not]
            intro q
            subst q
            exact hxy rfl
          have hrr : r = false := HR.out.trans hd
          generalize hx : xs[k] = x at c1 hxy
          generalize hy : ys[k] = y at c2 hxy
          have hxb : ((x : Int) != (y : Int)) = true := by simp only [bne_iff_ne, ne_eq]; omega
          clear hpa hpb hcella hcellb heq hxy hd hx hy
          go_wp2
          go_quiet (fail)
          go_wp2
          go_ret
          exact ⟨by rw [hrr]; rfl, ((Step.refl _ w o).drewN m).drewN nq⟩
      · obtain rfl : k = xs.length := by omega
        have hd : decide (xs = ys) = true := by
          rw [decide_eq_true_iff]
          exact List.ext_getElem hln fun j h1 h2 => heq j (by omega) h1 h2
        have hrr : r = true := HR.out.trans hd
        clear hpa hpb heq hd
        go_wp2
        go_ret
        exact ⟨by rw [hrr]; rfl, (Step.refl _ w o).drewN m⟩
  · have hbn : ((xs.length : Int) != (ys.length : Int)) = true := by simp only [bne_iff_ne, ne_eq]; omega
    have hd : decide (xs = ys) = false := by
      rw [decide_eq_false_iff_not]
      intro q
      exact hln (by rw [q])
    have hrr : r = false := HR.out.trans hd
    clear hpa hpb hd
    go_enter Try.func10, Try.ntmps10
    go_wp2
    go_ret
    exact ⟨by rw [hrr]; rfl, Step.refl _ w o⟩
end Go.Proofs.Ytanahbkkgppfnaa
