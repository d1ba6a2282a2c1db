/- The small calls that only read: is a node at the top; at which side does it hang; the heavier edge. -/
import Derived.Test.YtffmlffhiimmdaaLm
import Derived.Deep.RegionHeld
import Derived.LaidEqlPtr
namespace Go.Proofs.Ytffmlffhiimmdaa
open Go.ChangeShapes Go.WideShapes Go.ChangeAt Go.RowKit
set_option linter.unusedVariables false

/-- Is a node at the top of its path's tree? -/
abbrev TopN (nd : Nat → Ln) (h : Nat) : Prop := (nd h).up = 0 ∨ ((nd (nd h).up).l ≠ h ∧ (nd (nd h).up).r ≠ h)

theorem infoNode : (Try.prog.info? 90).map (fun i => i.size) = some 7 := by kernel_rfl
section
variable {w : World} {o : Nat → Nat} {L : Nat} {live : Nat → Prop} {pt : Nat → Nat} {E : Nat → Ed} {nd : Nat → Ln} {hv : Nat → Nat}
/-- Pointers to nodes are held against each other by the nodes. -/
theorem Lm.eqIn (F : Lm w o L live pt E nd hv) (h0 : ¬ live 0) {a h : Nat} (hl : live h) (ha : a ≠ 0 → live a) :
    ∀ d : Nat, (Op.equalIn (d + 1) 87 (.pointer (pq pt a)) (.pointer (some ⟨pt h, 0, none⟩))).run Try.prog w = .ok (decide (a = h)) w := by
  obtain ⟨j, hj, hjs⟩ := Option.map_eq_some_iff.1 infoNode
  intro d
  by_cases e : a = h
  · subst e
    rw [pqn pt (fun x => h0 (x ▸ hl)), decide_eq_true rfl]
    simp [Op.equalIn, run_underlying Try.underlying87, sizeOf, typeInfo, hj, run_sameAddr_same]
  · rw [decide_eq_false e]
    by_cases a0 : a = 0
    · rw [a0, pq0]
      simp [Op.equalIn, run_underlying Try.underlying87]
    · rw [pqn pt a0]
      have hne : (⟨pt a, 0, none⟩ : Addr) ≠ ⟨pt h, 0, none⟩ := fun q => F.pt_ne (ha a0) hl e (by injection q)
      simp [Op.equalIn, run_underlying Try.underlying87, sizeOf, typeInfo, hj, hjs, run_sameAddr_other w hne (F a (ha a0)).1 (F h hl).1]
theorem Lm.eql (F : Lm w o L live pt E nd hv) (h0 : ¬ live 0) {a h : Nat} (hl : live h) (ha : a ≠ 0 → live a) :
    (binOp .eql 87 (.pointer (pq pt a)) (.pointer (some ⟨pt h, 0, none⟩))).run Try.prog w = .ok (.bool (decide (a = h))) w := by
  simp only [binOp]
  simp [Op.equal, Op.maxDepth, F.eqIn h0 hl ha 9999]
theorem Lm.neq (F : Lm w o L live pt E nd hv) (h0 : ¬ live 0) {a h : Nat} (hl : live h) (ha : a ≠ 0 → live a) :
    (binOp .neq 87 (.pointer (pq pt a)) (.pointer (some ⟨pt h, 0, none⟩))).run Try.prog w = .ok (.bool (!decide (a = h))) w := by
  simp only [binOp]
  simp [Op.equal, Op.maxDepth, F.eqIn h0 hl ha 9999]
end

set_option maxRecDepth 100000 in
theorem isTop_any (w : World) (o : Nat → Nat) (L : Nat) (live : Nat → Prop) (pt : Nat → Nat) (E : Nat → Ed) (nd : Nat → Ln) (hv : Nat → Nat) (h : Nat) (F : Lm w o L live pt E nd hv) (hl : live h) (h0 : ¬ live 0) (hu : (nd h).up ≠ 0 → live (nd h).up)
    (hla : (nd h).up ≠ 0 → (nd (nd h).up).l ≠ 0 → live (nd (nd h).up).l) (hra : (nd h).up ≠ 0 → (nd (nd h).up).r ≠ 0 → live (nd (nd h).up).r) :
    Calls Try.prog 78 #[.pointer (some ⟨pt h, 0, none⟩)] w fun e w' => e = .returned (.bool (decide (TopN nd h))) ∧ w' = w := by
  have C := F.node hl
  by_cases e : (nd h).up = 0
  · have r : decide (TopN nd h) = true := by simp [TopN, e]
    rw [r]
    have c := C.up
    rw [e, pq0] at c
    clear F C
    go_enter Try.func78, Try.ntmps78
    go_wp2
    go_ret
    exact ⟨rfl, rfl⟩
  · have D := F.node (hu e)
    have c := C.up
    rw [pqn pt e] at c
    have dl := D.l
    have dr := D.r
    have nl := F.neq h0 hl (hla e)
    have nr := F.neq h0 hl (hra e)
    by_cases q : (nd (nd h).up).l = h
    · have r : decide (TopN nd h) = false := by simp [TopN, e, q]
      rw [r]
      rw [decide_eq_true q] at nl
      clear q F C D dr nr hla hra hu
      go_enter Try.func78, Try.ntmps78
      go_wp2
      go_ret
      exact ⟨rfl, rfl⟩
    rw [decide_eq_false q] at nl
    by_cases q2 : (nd (nd h).up).r = h
    · have r : decide (TopN nd h) = false := by simp [TopN, e, q2]
      rw [r]
      rw [decide_eq_true q2] at nr
      clear q q2 F C D
      go_enter Try.func78, Try.ntmps78
      go_wp2
      go_ret
      exact ⟨rfl, rfl⟩
    rw [decide_eq_false q2] at nr
    have r : decide (TopN nd h) = true := by simp [TopN, e, q, q2]
    rw [r]
    clear q q2 F C D
    go_enter Try.func78, Try.ntmps78
    go_wp2
    go_ret
    exact ⟨rfl, rfl⟩

/-- Links lead to nodes. -/
def Cl (live : Nat → Prop) (nd : Nat → Ln) : Prop := ∀ h, live h → ((nd h).up ≠ 0 → live (nd h).up) ∧ ((nd h).l ≠ 0 → live (nd h).l) ∧ ((nd h).r ≠ 0 → live (nd h).r)
theorem Small.nz {live : Nat → Prop} (h : Small live) : ¬ live 0 := fun x => by have := (h 0 x).1; omega
theorem Small.ne {live : Nat → Prop} (h : Small live) {k : Nat} (hk : live k) : k ≠ 0 := fun e => h.nz (e ▸ hk)
theorem isTop_cl (w : World) (o : Nat → Nat) (L : Nat) (live : Nat → Prop) (pt : Nat → Nat) (E : Nat → Ed) (nd : Nat → Ln) (hv : Nat → Nat) (h : Nat) (F : Lm w o L live pt E nd hv) (hs : Small live) (C : Cl live nd) (hl : live h) :
    Calls Try.prog 78 #[.pointer (some ⟨pt h, 0, none⟩)] w fun e w' => e = .returned (.bool (decide (TopN nd h))) ∧ w' = w :=
  isTop_any w o L live pt E nd hv h F hl hs.nz (C h hl).1 (fun e => (C _ ((C h hl).1 e)).2.1) (fun e => (C _ ((C h hl).1 e)).2.2)

set_option maxRecDepth 100000 in
theorem side_cl (w : World) (o : Nat → Nat) (L : Nat) (live : Nat → Prop) (pt : Nat → Nat) (E : Nat → Ed) (nd : Nat → Ln) (hv : Nat → Nat) (h : Nat) (F : Lm w o L live pt E nd hv) (hs : Small live) (C : Cl live nd) (hl : live h) (e : (nd h).up ≠ 0) :
    Calls Try.prog 80 #[.pointer (some ⟨pt h, 0, none⟩)] w fun e w' => e = .returned (.int .i64 (if (nd (nd h).up).l = h then 0 else 1)) ∧ w' = w := by
  have c := (F.node hl).up
  rw [pqn pt e] at c
  have dl := (F.node ((C h hl).1 e)).l
  have nl := F.eql hs.nz hl (C _ ((C h hl).1 e)).2.1
  by_cases q : (nd (nd h).up).l = h
  · rw [decide_eq_true q] at nl
    rw [if_pos q]
    clear q F C hs
    go_enter Try.func80, Try.ntmps80
    go_wp2
    go_ret
    exact ⟨rfl, rfl⟩
  · rw [decide_eq_false q] at nl
    rw [if_neg q]
    clear q F C hs
    go_enter Try.func80, Try.ntmps80
    go_wp2
    go_ret
    exact ⟨rfl, rfl⟩

end Go.Proofs.Ytffmlffhiimmdaa
