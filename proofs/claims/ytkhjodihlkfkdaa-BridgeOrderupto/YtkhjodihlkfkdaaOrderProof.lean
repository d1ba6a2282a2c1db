/- The law BridgeOrder of package bridge holds wherever its arguments are together of bulk at most 1048576: it answers true and leaves its arguments as they were. -/
import Derived.Test.YtkhjodihlkfkdaaOrderWalk
import Derived.Test.YtkhjodihlkfkdaaRowK8
import Derived.Test.YtkhjodihlkfkdaaRowI8
namespace Go.Proofs.Ytkhjodihlkfkdaa.bridgeOrder
open Go.ChangeShapes Go.WideShapes Go.ChangeAt Go.RowKit
set_option linter.unusedVariables false

set_option maxRecDepth 100000 in
theorem lifted (os : Os) (started : os.Started) (H : Type) (enc : TypeId × Value → H) (F : Stop.Interp) :
    ReturnsInHanded {} Try.checked os 7 .any ((Rows.OpenSpec.upto Rows.bridgeOrderSpec).pre6 enc Try.prog Try.f7 Rows.bridgeOrderUptoRow.domain false) (((Rows.OpenSpec.upto Rows.bridgeOrderSpec).at F).post enc Try.prog Try.f7 false true false false) := by
  refine returnsInHanded_of_cond (C := Try.checked) (s := (Rows.OpenSpec.upto Rows.bridgeOrderSpec)) (k := Rows.uptoSmall) rfl ownK started (by kernel_rfl) Try.func7
    (OpenSpec.witness (enc := enc) (C := Try.checked) (s := (Rows.OpenSpec.upto Rows.bridgeOrderSpec)) (k := Rows.uptoSmall) rfl false ⟨#[], #[.int .i64 0, .slice none 0 0, .slice none 0 0], []⟩ 8 (by kernel_rfl) (by kernel_rfl) (by kernel_rfl)
      (x := ([.lit (.int .i64 0), .nil, .nil], [], [])) (by kernel_rfl) rfl (by kernel_rfl)) ?_
  intro W base args ds gs before hval0 hW _ hk0 _
  have hk : Rows.uptoSmall H (ds ++ gs) = true := hk0
  clear hk0
  have hval : ∀ (j : Nat) t v, Try.f7.params[j]? = some t → args[j]? = some v → Value.okWide Try.prog W .any base t v := hval0
  have hW' := hW
  obtain ⟨p, q, hA0, hV, rfl, _, _⟩ := hW
  have hA : DataW.TrodAll enc Try.prog W 0 (fun _ => true) true Try.f7.params.toList args.toList ds p := hA0
  rw [Try.params7] at hA hval
  obtain ⟨v0, vs0, d0, ds0, p0, q0, hargs, rfl, rfl, h0, r0⟩ := trodAll_cons hA
  obtain ⟨v1, vs1, d1, ds1, p1, q1, rfl, rfl, rfl, h1, r1⟩ := trodAll_cons r0
  obtain ⟨v2, vs2, d2, ds2, p2, q2, rfl, rfl, rfl, h2, r2⟩ := trodAll_cons r1
  obtain ⟨rfl, rfl, rfl⟩ := trodAll_nil r2
  obtain rfl : args = #[v0, v1, v2] := by cases args; simp_all
  obtain ⟨rfl, rfl⟩ := trodVars_none hV
  obtain ⟨c0, rfl, rfl, rfl, wc0⟩ := open_int Try.underlying3 (hval 0 3 v0 rfl rfl) h0
  obtain ⟨a1, len1, cap1, rfl⟩ := okWide_slice Try.underlying35 (hval 1 35 v1 rfl rfl)
  obtain ⟨a2, len2, cap2, rfl⟩ := okWide_slice Try.underlying39 (hval 2 39 v2 rfl rfl)
  clear hA0 hval0
  simp only [List.append_nil, List.nil_append] at hW' hk
  have hlt1 : ∀ x ∈ p1, x.block < W.heap.size := fun x hx => by simpa using hW'.lt x (by simp [hx])
  obtain ⟨⟨f1, harg1⟩, hd1⟩ := open_prs rfl h1 hlt1
  have hreach1 : len1 ≤ 1048576 := by
    rcases hd1 with ⟨_, h⟩ | ⟨es, sp, rfl, hl, hc⟩
    · omega
    · have := bulk_slice (es := es) (sp := sp) hk (by simp)
      omega
  have hlt2 : ∀ x ∈ p2, x.block < W.heap.size := fun x hx => by simpa using hW'.lt x (by simp [hx])
  obtain ⟨⟨f2, harg2⟩, hd2⟩ := open_arg rfl h2 hlt2
  have hreach2 : len2 ≤ 1048576 := by
    rcases hd2 with ⟨_, h⟩ | ⟨es, sp, rfl, hl, hc⟩
    · omega
    · have := bulk_slice (es := es) (sp := sp) hk (by simp)
      omega
  refine (order_walk W c0 a1 a2 len1 cap1 len2 cap2 f1 f2 harg1 harg2 hreach1 hreach2 (bd_i64 wc0)).mono fun e W' ⟨he, hnx⟩ => ?_
  subst he
  exact ⟨_, rfl, _, _, _, [], ([] ++ (p1 ++ (p2 ++ []))), [], hW', trodAll_cons_mk (shut_bool Try.underlying4 _) trodAll_mk0, (trodAll_cons_mk (shut_int Try.underlying3 wc0) (trodAll_cons_mk (Below.trod laidOut (by kernel_rfl) (of_decide_eq_true (by kernel_rfl)) h1 hnx hlt1) (trodAll_cons_mk (Below.trod laidOut (by kernel_rfl) (of_decide_eq_true (by kernel_rfl)) h2 hnx hlt2) trodAll_mk0))), rfl, hnx.frame _, fun h => by cases h⟩

end Go.Proofs.Ytkhjodihlkfkdaa.bridgeOrder
namespace Go.Proofs.Ytkhjodihlkfkdaa
open Go.RowKit
/-- The law BridgeOrder: where the arguments are together of bulk at most 1048576: true; the input reads as it did. -/
theorem bridgeOrder_holds : Rows.BridgeOrderUptoSaid :=
  OpenClaim.holds_of_cond 7 Try.f7 rfl rfl rfl rfl rfl rfl rfl ⟨rfl, rfl, rfl, rfl, rfl⟩ rfl rfl rfl rfl rfl (by kernel_rfl) Try.func7 (by kernel_rfl)
    (of_decide_eq_true (by kernel_rfl)) (by unfold Func.isWrapper; first | (rw [if_pos (by decide +kernel)]; kernel_rfl) | (rw [if_neg (by decide +kernel)]; exact ⟨rfl, rfl⟩))
    (fun os started H enc _ F => bridgeOrder.lifted os started H enc F)
#print axioms bridgeOrder_holds
end Go.Proofs.Ytkhjodihlkfkdaa
