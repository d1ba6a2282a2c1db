/- The document's own forest: Split: what it does to lists and rows; the ways that change nothing. -/
import Derived.Test.YthdmajddmajjoaaAr
import Derived.Deep.MidRow
import Derived.Test.YthdmajddmajjoaaRefR
namespace Go.Proofs.Ythdmajddmajjoaa
open Go.ChangeShapes Go.WideShapes Go.ChangeAt Go.RowKit
set_option linter.unusedVariables false
set_option linter.unusedSimpArgs false
theorem elem_of {P : Program} {t e : TypeId} (ht : P.underlying t = some (.slice e)) : P.elem t = e := by simp [Program.elem, ht]
theorem wpList_cutHi {P : Program} {ops : Array Oper} {rest : List Oper} {op : Oper} {a : Act} {w : World} {Q : Exit → Act → World → Prop} (hg : op.guard = none) (t : TypeId) (x h : Operand) (ho : op.op = .slice t x none (some h) none)
    (e : TypeId) (ht : P.underlying t = some (.slice e)) (i : TypeInfo) (hi : P.info? e = some i) (ao : Option Addr) (len cap k : Nat) (hx : a.eval x = .slice ao len cap) (hh : a.eval h = .int .i64 (k : Nat)) (hle : k ≤ cap)
    (hK : wpList P ops Q rest (a.put op.dst (.slice ao k cap)) w) : wpList P ops Q (op :: rest) a w := by
  have he := elem_of ht
  have ht2 : P.underlying t = some (.slice (P.elem t)) := by rw [he]; exact ht
  have hr := run_slice_h (P := P) w t ao len cap ht2 .i64 (k : Int) (by omega) (by omega)
  rw [he] at hr
  have hm : ao.map (fun x : Addr => x.add 0) = ao := by cases ao <;> simp [Addr.add]
  refine wpList_plain hg fun K h2 => ?_
  unfold Oper.wp execOp
  simp only [ho, Sem.run_bind, run_sliceAt_slice w t _ _ _ _ ht2, Option.map_some, Option.map_none, hx, hh, hr, sizeOf, typeInfo, run_program, hi, Sem.run_pure, Result.andThen_ok, sliced, Nat.zero_mul, hm, ite_self, Int.toNat_natCast, Nat.sub_zero]
  exact h2 _ _ hK
/-- Where a piece without its first k elements begins. -/
def offA (ao : Option Addr) (cap k size : Nat) : Option Addr := if cap = k then ao else ao.map (·.add (k * size))
theorem wpList_cutLo {P : Program} {ops : Array Oper} {rest : List Oper} {op : Oper} {a : Act} {w : World} {Q : Exit → Act → World → Prop} (hg : op.guard = none) (t : TypeId) (x h : Operand) (ho : op.op = .slice t x (some h) none none)
    (e : TypeId) (ht : P.underlying t = some (.slice e)) (i : TypeInfo) (hi : P.info? e = some i) (size : Nat) (hz : i.size = size) (ao : Option Addr) (len cap k : Nat) (hx : a.eval x = .slice ao len cap) (hh : a.eval h = .int .i64 (k : Nat)) (hle : k ≤ len)
    (hK : wpList P ops Q rest (a.put op.dst (.slice (offA ao cap k size) (len - k) (cap - k))) w) : wpList P ops Q (op :: rest) a w := by
  subst hz
  have he := elem_of ht
  have ht2 : P.underlying t = some (.slice (P.elem t)) := by rw [he]; exact ht
  have hr := run_slice_l (P := P) w t ao len cap ht2 .i64 (k : Int) (by omega) (by omega)
  rw [he] at hr
  refine wpList_plain hg fun K h2 => ?_
  unfold Oper.wp execOp
  simp only [ho, Sem.run_bind, run_sliceAt_slice w t _ _ _ _ ht2, Option.map_some, Option.map_none, hx, hh, hr, sizeOf, typeInfo, run_program, hi, Sem.run_pure, Result.andThen_ok, sliced, Int.toNat_natCast]
  exact h2 _ _ hK
theorem Row.newsHi {w : World} {o : Nat → Nat} {i : Nat} {e : TypeId} {size : Nat} {ao : Option Addr} {n cap : Nat} {xs : List Value} (h : Row w o i e size (.slice ao n cap) n xs) (k : Nat) (hk : k ≤ n) : 0 < k → ∃ ad, ao = some ad ∧ ∀ j u, (xs.take (k * size))[j]? = some u → w.cell? (ad.add j) = some u := fun h0 => by
  obtain ⟨g, cap', hv, _, _, _, _, hcell, _⟩ := h.pos (by omega)
  simp only [Value.slice.injEq, true_and] at hv
  refine ⟨_, hv.1, fun j u hu => ?_⟩
  have hj : j < k * size := by have := (List.getElem?_eq_some_iff.1 hu).1; rw [List.length_take] at this; omega
  have hle : k * size ≤ n * size := Nat.mul_le_mul_right _ hk
  rw [List.getElem?_take_of_lt hj] at hu
  rw [Addr.add_mid, Nat.zero_add, hcell j (by omega)]
  exact hu
theorem Row.newsLo {w : World} {o : Nat → Nat} {i : Nat} {e : TypeId} {size : Nat} {ao : Option Addr} {n cap : Nat} {xs : List Value} (h : Row w o i e size (.slice ao n cap) n xs) (k : Nat) (hk : k ≤ n) : 0 < n - k → ∃ ad, offA ao cap k size = some ad ∧ ∀ j u, (xs.drop (k * size))[j]? = some u → w.cell? (ad.add j) = some u := fun h0 => by
  obtain ⟨g, cap', hv, _, hc, _, _, hcell, _⟩ := h.pos (by omega)
  simp only [Value.slice.injEq, true_and] at hv
  obtain ⟨rfl, rfl⟩ := hv
  have hne : ¬ cap = k := by omega
  refine ⟨⟨g, k * size, none⟩, by simp [offA, hne, Addr.add_mid], fun j u hu => ?_⟩
  have hl := h.len
  rw [List.getElem?_drop] at hu
  have hj : k * size + j < n * size := by have := (List.getElem?_eq_some_iff.1 hu).1; omega
  rw [Addr.add_mid, hcell _ hj]
  exact hu
end Go.Proofs.Ythdmajddmajjoaa
namespace Go.Proofs.Ythdmajddmajjoaa
open Go.ChangeShapes Go.WideShapes Go.ChangeAt Go.RowKit
set_option linter.unusedVariables false
set_option linter.unusedSimpArgs false

theorem Pl.split {live : Nat → Prop} {S : Nat → List Nat} (p : Pl live S) {h : Nat} {A B : List Nat} (hl : live h) (hs : S h = A ++ h :: B) : Pl live (splitS S A h B) := by
  have hnd := p.nd h hl
  rw [hs] at hnd
  have hap := (List.nodup_append.1 hnd).2.2
  have inA : ∀ k, k ∈ A → splitS S A h B k = A := fun k hk => by unfold splitS; rw [if_pos hk]
  have inB : ∀ k, k ∈ h :: B → splitS S A h B k = h :: B := fun k hk => by unfold splitS; rw [if_neg (fun hA => hap k hA k hk rfl), if_pos hk]
  have out : ∀ k, k ∉ A → k ∉ h :: B → splitS S A h B k = S k := fun k h1 h2 => by unfold splitS; rw [if_neg h1, if_neg h2]
  have lv : ∀ k, k ∈ A ++ h :: B → live k ∧ S k = S h := fun k hk => p.mem h hl k (by rw [hs]; exact hk)
  refine ⟨fun k hk => ?_, fun k hk j hj => ?_, fun k hk => ?_⟩
  · by_cases h1 : k ∈ A
    · rw [inA k h1]; exact h1
    · by_cases h2 : k ∈ h :: B
      · rw [inB k h2]; exact h2
      · rw [out k h1 h2]; exact p.self k hk
  · by_cases h1 : k ∈ A
    · rw [inA k h1] at hj ⊢
      exact ⟨(lv j (List.mem_append.2 (.inl hj))).1, inA j hj⟩
    · by_cases h2 : k ∈ h :: B
      · rw [inB k h2] at hj ⊢
        exact ⟨(lv j (List.mem_append.2 (.inr hj))).1, inB j hj⟩
      · rw [out k h1 h2] at hj ⊢
        obtain ⟨h3, h4⟩ := p.mem k hk j hj
        refine ⟨h3, ?_⟩
        have hno : ∀ x, x ∈ A ++ h :: B → x = j → False := fun x hx e => by
          subst e
          have e2 := (lv x hx).2
          have e3 : k ∈ A ++ h :: B := by rw [← hs, ← e2, h4]; exact p.self k hk
          rcases List.mem_append.1 e3 with e4 | e4
          · exact h1 e4
          · exact h2 e4
        rw [out j (fun hj => hno j (List.mem_append.2 (.inl hj)) rfl) (fun hj => hno j (List.mem_append.2 (.inr hj)) rfl)]
        exact h4
  · by_cases h1 : k ∈ A
    · rw [inA k h1]; exact (List.nodup_append.1 hnd).1
    · by_cases h2 : k ∈ h :: B
      · rw [inB k h2]; exact (List.nodup_append.1 hnd).2.1
      · rw [out k h1 h2]; exact p.nd k hk
theorem xsplitS_nil {live : Nat → Prop} {S : Nat → List Nat} (p : Pl live S) {h : Nat} {B : List Nat} (hl : live h) (hs : S h = h :: B) (k : Nat) (hk : live k) : splitS S [] h B k = S k := by
  unfold splitS
  rw [if_neg (by simp)]
  by_cases e : k ∈ h :: B
  · rw [if_pos e, ← hs]
    exact ((p.mem h hl k (by rw [hs]; exact e)).2).symm
  · rw [if_neg e]
section
variable {w : World} {o : Nat → Nat} {R q m pa : Nat} {vi vn vl : Value} {its : List It} {inL : List Nat} {ls : List Value} {LL : List (List Nat)}
theorem Rm.put1 {I : Nat → Prop} {gl cl i : Nat} {w2 : World} {o2 : Nat → Nat} {v : Value} {l2 : List Nat} (h : Rm w o R q m pa vi vn (.slice (some ⟨gl, 0, none⟩) LL.length cl) its inL ls LL) (hi : i < LL.length) (hI : ∀ k, I k → k = R + 10 + i ∨ k = R + 10 + LL.length) (r2 : Row w2 o2 (R + 10 + i) 3 1 v l2.length (intsL l2)) (s2 : Step I w o w2 o2) :
    Rm (w2.setCell ⟨gl, i, none⟩ v) o2 R q m pa vi vn (.slice (some ⟨gl, 0, none⟩) LL.length cl) its inL (ls.set i v) (LL.set i l2) ∧ Step (fun k => k = R + 6) w2 o2 (w2.setCell ⟨gl, i, none⟩ v) o2 := by
  have nI : ∀ k, k ≠ R + 10 + i → k ≠ R + 10 + LL.length → ¬ I k := fun k h1 h2 hk => (hI k hk).elim h1 h2
  have r3 := h.rl.step s2 (nI _ (by omega) (by omega))
  have hg : o2 gl = R + 6 := r3.2 gl rfl
  have s3 : Step (fun k => k = R + 6) w2 o2 (w2.setCell ⟨gl, i, none⟩ v) o2 := (Step.refl _ w2 o2).setCell _ _ hg
  have r4 := r3.store i v
  have hll := h.ll
  have hm := h.many
  have el : (LL.set i l2).length = LL.length := by simp
  refine ⟨⟨(h.blk.step s2 (nI _ (by omega) (by omega))).step s3 (by omega), (h.ri.step s2 (nI _ (by omega) (by omega))).step s3 (by omega), h.li, (h.rn.step s2 (nI _ (by omega) (by omega))).step s3 (by omega), h.ln, by rw [el]; exact r4, by simp [hll], fun k hk => ?_, by rw [el]; exact hm⟩, s3⟩
  rw [el] at hk
  by_cases e2 : k = i
  · subst e2
    rw [getD_set_same _ _ _ _ (by omega), getD_set_same _ _ _ _ hk]
    exact r2.step s3 (by omega)
  · rw [getD_set_other _ _ _ _ _ e2, getD_set_other _ _ _ _ _ e2]
    exact ((h.rows k hk).step s2 (nI _ (by omega) (by omega))).step s3 (by omega)
end
section
variable {w : World} {o : Nat → Nat} {R q room n M : Nat} {free : List Nat} {it : Nat → It} {S : Nat → List Nat} {pa : Nat} {vi vn vl : Value} {its : List It} {inL : List Nat} {ls : List Value} {LL : List (List Nat)}
theorem x_split_out (x : Int) (h : Rx w o R q room n M free it S pa vi vn vl its inL ls LL) (hb : hasB n free x = false) :
    Calls Try.prog 24 #[.pointer (some ⟨q, 0, none⟩), .int .i64 x] w fun e w' => e = .returned (.int .i64 31) ∧ Below w.heap.size w w' := by
  have c1 := x_rank_out x h hb
  clear h
  go_enter Try.func24, Try.ntmps24
  go_wp2_with fail
  refine c1.mono ?_
  rintro e w1 ⟨rfl, b1⟩
  clear c1
  go_wp2
  go_ret
  exact ⟨rfl, b1⟩
theorem x_split_none (k : Nat) (B : List Nat) (h : Rx w o R q room n M free it S pa vi vn vl its inL ls LL) (hk : Live n free k) (hs : S k = k :: B) :
    Calls Try.prog 24 #[.pointer (some ⟨q, 0, none⟩), .int .i64 (k : Nat)] w fun e w' => e = .returned (.int .i64 0) ∧ Below w.heap.size w w' := by
  have c1 := x_rank_in k [] B h hk hs
  clear h
  go_enter Try.func24, Try.ntmps24
  go_wp2_with fail
  refine c1.mono ?_
  rintro e w1 ⟨rfl, b1⟩
  clear c1
  go_wp2
  go_ret
  exact ⟨rfl, b1⟩
theorem Rx.splitNone {k : Nat} {B : List Nat} (h : Rx w o R q room n M free it S pa vi vn vl its inL ls LL) (hk : Live n free k) (hs : S k = k :: B) : Rx w o R q room n M free it (splitS S [] k B) pa vi vn vl its inL ls LL :=
  ⟨h.blk, h.ar, h.ri, h.li, h.rn, h.ln, h.rl, h.ll, h.rows, h.items, h.rp.cong (fun _ => Iff.rfl) (fun j hj => xsplitS_nil h.pl hk hs j hj) (fun _ _ => rfl), h.pl.split hk hs, h.small, h.many, h.mny⟩
theorem Rx.more (h : Rx w o R q room n M free it S pa vi vn vl its inL ls LL) (hM : M < 5500000000000) : Rx w o R q room n (M + 1) free it S pa vi vn vl its inL ls LL :=
  ⟨h.blk, h.ar, h.ri, h.li, h.rn, h.ln, h.rl, h.ll, h.rows, h.items, h.rp, h.pl, h.small, by have := h.many; omega, by omega⟩
end
end Go.Proofs.Ythdmajddmajjoaa
