/- One side of the law ArenaPlays, its arena one of int: what it is in memory, and what its calls answer and leave. -/
import Derived.Test.YtbcpifklnbaooaaSideBase
import Derived.Test.YtbcpifklnbaooaaArInt
import Derived.Deep.LoopGhost
namespace Go.Proofs.Ytbcpifklnbaooaa
open Go.ChangeShapes Go.WideShapes Go.ChangeAt Go.RowKit
set_option linter.unusedVariables false

/-- The things as cells. -/
def valsInt (ts : List Int) : List Value := ts.map fun x => Value.int .i64 x
theorem valsInt_len (ts : List Int) : (valsInt ts).length = ts.length := by simp [valsInt]
theorem valsInt_get (ts : List Int) (k : Nat) (y : Int) (h : ts[k]? = some y) : (valsInt ts)[k]? = some (Value.int .i64 y) := by simp [valsInt, h]
theorem valsInt_set (ts : List Int) (k : Nat) (y : Int) : (valsInt ts).set k (Value.int .i64 y) = valsInt (ts.set k y) := by simp [valsInt]
theorem valsInt_push (ts : List Int) (y : Int) : valsInt ts ++ [Value.int .i64 y] = valsInt (ts ++ [y]) := by simp [valsInt]

def SideInt (w : World) (o : Nat → Nat) (S ps room n : Nat) (ts : List Int) (free : List Nat) (kept : List Int) (als wls : List Value) (ls : List (List Nat)) : Prop :=
  ∃ pa px vk va vw, Blk w o S ps (.cells #[.pointer (some ⟨pa, 0, none⟩), .pointer (some ⟨px, 0, none⟩), vk, va, vw] 38 (0, 0)) ∧
    Ar 70 3 1 w o (S + 1) pa room n (valsInt ts) free ∧ Rf w o (S + 5) px room n free ∧
    Row w o (S + 8) 3 1 vk kept.length (valsInt kept) ∧ Kept n ts free kept ∧
    Row w o (S + 9) 35 1 va als.length als ∧ Row w o (S + 10) 35 1 vw wls.length wls ∧ Lists w o S als wls ls

theorem SideInt.step {I : Nat → Prop} {w w' : World} {o o' : Nat → Nat} {S ps room n : Nat} {ts : List Int} {free : List Nat} {kept : List Int} {als wls : List Value} {ls : List (List Nat)} (h : SideInt w o S ps room n ts free kept als wls ls) (s : Step I w o w' o') (hi : ∀ k, SD S k → ¬ I k) : SideInt w' o' S ps room n ts free kept als wls ls := by
  obtain ⟨pa, px, vk, va, vw, h0, hA, hR, hK, hk, hAl, hWl, hL⟩ := h
  exact ⟨pa, px, vk, va, vw, h0.step s (hi _ (SD.mk (by omega) (by omega))), hA.step s (fun k hk => hi _ (SD.mk (by unfold IL at hk; omega) (by unfold IL at hk; omega))), hR.step s (fun k hk => hi _ (SD.mk (by unfold RL at hk; omega) (by unfold RL at hk; omega))), hK.step s (hi _ (SD.mk (by omega) (by omega))), hk, hAl.step s (hi _ (SD.mk (by omega) (by omega))), hWl.step s (hi _ (SD.mk (by omega) (by omega))), hL.step s (fun k h1 h2 => hi _ (SD.mk (by omega) (by omega)))⟩

theorem getInt (w : World) (o : Nat → Nat) (S ps room n : Nat) (ts : List Int) (free : List Nat) (kept : List Int) (als wls : List Value) (ls : List (List Nat)) (x : Int) (h : SideInt w o S ps room n ts free kept als wls ls) :
    Calls Try.prog 41 #[.pointer (some ⟨ps, 0, none⟩), .int .i64 x] w fun e w' => e = .returned (.bool true) ∧ w' = w := by
  obtain ⟨pa, px, vk, va, vw, h0, hA, hR, hK, hk, hAl, hWl, hL⟩ := h
  obtain ⟨c0, c1, c2, c3, c4, hf⟩ := h0.cells5
  have hn : n ≤ 4096 := Nat.le_trans hA.wf.le hA.wf.room
  have hhas := refHas w o (S + 5) px room n free x hR
  by_cases hb : hasB n free x = true
  · obtain ⟨k, rfl, hkn, hu⟩ := hasB_true hb
    have htl : ts.length = n := by obtain ⟨_, _, _, _, h1, _⟩ := hA; have := h1.len; rw [valsInt_len] at this; omega
    obtain ⟨y, hy⟩ : ∃ y, ts[k]? = some y := ⟨ts[k]'(by omega), by simp [htl, hkn]⟩
    have hky := (hk.same k hkn hu).trans hy
    have hkl := hk.pos (by omega)
    obtain ⟨gk, ck, rfl, _, hck, hmk, _, hclk, _⟩ := hK.pos (by omega)
    have cK : w.cell? ⟨gk, k + 1, none⟩ = some (Value.int .i64 y) := (hclk (k + 1) (by omega)).trans (valsInt_get kept (k + 1) y hky)
    have hget := getInInt w o (S + 1) pa room n (valsInt ts) free k y hkn hu (valsInt_get ts k y hy) hA
    rw [hb] at hhas
    unfold maxLen at hmk
    rw [hkl] at hck c2
    clear h0 hA hR hK hk hAl hWl hL hclk hy hky hkl hb
    go_enter Try.func41, Try.ntmps41
    go_wp2_with fail
    refine hget.mono ?_
    rintro e w1 ⟨rfl, rfl⟩
    go_wp2_with fail
    refine hhas.mono ?_
    rintro e w2 ⟨rfl, rfl⟩
    go_wp2
    go_ret
    exact ⟨ret_bool (by simp), rfl⟩
  · have hb' : hasB n free x = false := by simpa using hb
    have hget := getOutInt w o (S + 1) pa room n (valsInt ts) free x hb' hA
    rw [hb'] at hhas
    clear h0 hA hR hK hk hAl hWl hL hb hb'
    go_enter Try.func41, Try.ntmps41
    go_wp2_with fail
    refine hget.mono ?_
    rintro e w1 ⟨rfl, rfl⟩
    go_wp2_with fail
    refine hhas.mono ?_
    rintro e w2 ⟨rfl, rfl⟩
    go_wp2
    go_ret
    exact ⟨ret_bool (by simp), rfl⟩

/-- A side, whatever it holds. -/
def SideXInt (w : World) (o : Nat → Nat) (S ps : Nat) : Prop := ∃ room n ts free kept als wls ls, SideInt w o S ps room n ts free kept als wls ls
theorem SideXInt.step {I : Nat → Prop} {w w' : World} {o o' : Nat → Nat} {S ps : Nat} (h : SideXInt w o S ps) (s : Step I w o w' o') (hi : ∀ k, SD S k → ¬ I k) : SideXInt w' o' S ps := by
  obtain ⟨room, n, ts, free, kept, als, wls, ls, h⟩ := h
  exact ⟨room, n, ts, free, kept, als, wls, ls, h.step s hi⟩

theorem ts_lenInt {TA E : Nat} {w : World} {o : Nat → Nat} {L p room n : Nat} {ts : List Int} {free : List Nat} (h : Ar TA E 1 w o L p room n (valsInt ts) free) : ts.length = n := by
  obtain ⟨_, _, _, _, h1, _⟩ := h
  have := h1.len
  rw [valsInt_len] at this
  omega

theorem setInt (w : World) (o : Nat → Nat) (S ps : Nat) (x : Int) (v : Int) (h : SideXInt w o S ps) :
    Calls Try.prog 42 #[.pointer (some ⟨ps, 0, none⟩), .int .i64 x, Value.int .i64 v] w fun e w' => e = .returned (.bool true) ∧ ∃ o', SideXInt w' o' S ps ∧ Step (SL S) w o w' o' := by
  obtain ⟨room, n, ts, free, kept, als, wls, ls, h⟩ := h
  have hS := h
  obtain ⟨pa, px, vk, va, vw, h0, hA, hR, hK, hk, hAl, hWl, hL⟩ := h
  have hx0 := h0
  obtain ⟨c0, c1, c2, c3, c4, hf⟩ := hx0.cells5
  clear hx0
  have hn : n ≤ 4096 := Nat.le_trans hA.wf.le hA.wf.room
  by_cases hb : hasB n free x = true
  · obtain ⟨k, rfl, hkn, hu⟩ := hasB_true hb
    have htl := ts_lenInt hA
    have hkl := hk.pos (by omega)
    obtain ⟨gk, ck, rfl, hogk, hck, hmk, hltk, hclk, hfrk⟩ := hK.pos (by omega)
    have hlk : k + 1 < (valsInt kept).length := by rw [valsInt_len]; omega
    have cK : w.cell? ⟨gk, k + 1, none⟩ = some ((valsInt kept)[k + 1]) := (hclk (k + 1) (by omega)).trans (List.getElem?_eq_getElem hlk)
    have hset := setInInt w o (S + 1) pa room n (valsInt ts) free k v hkn hu hA
    unfold maxLen at hmk
    rw [hkl] at hck c2
    have hp : ps < w.heap.size := h0.lt
    go_enter Try.func42, Try.ntmps42
    go_wp2_with fail
    refine hset.mono ?_
    rintro e w1 ⟨rfl, hA1, s1⟩
    have k0 := h0.step s1 (by unfold IL; omega)
    have kR := hR.step s1 (by unfold IL RL; omega)
    have kK := hK.step s1 (by unfold IL; omega)
    have kA := hAl.step s1 (by unfold IL; omega)
    have kW := hWl.step s1 (by unfold IL; omega)
    have kL := hL.step s1 (by unfold IL; omega)
    have hhas := refHas w1 o (S + 5) px room n free ((k + 1 : Nat) : Int) kR
    rw [hb] at hhas
    obtain ⟨d0, d1, d2, d3, d4, hfd⟩ := k0.cells5
    rw [hkl] at d2
    have eK : w1.cell? ⟨gk, k + 1, none⟩ = some ((valsInt kept)[k + 1]) := (World.cell?_of_block (w := w) (s1.block gk hltk (by rw [hogk]; unfold IL; omega))).trans cK
    have fK : w1.frozen? ⟨gk, k + 1, none⟩ = false := (World.frozen?_of_block (w := w) (s1.block gk hltk (by rw [hogk]; unfold IL; omega))).trans (hfrk _)
    have s2 := setStep (fun x => x = S + 8) w1 o ⟨gk, k + 1, none⟩ (Value.int .i64 v) hogk
    have r2 := kK.store (k + 1) (Value.int .i64 v)
    rw [valsInt_set] at hA1 r2
    have hk2 := hk.set k hkn v (by omega)
    have e1 : kept.length = (kept.set (k + 1) v).length := by simp
    rw [e1] at r2
    have F : SideXInt (w1.setCell ⟨gk, k + 1, none⟩ (Value.int .i64 v)) o S ps := ⟨room, n, ts.set k v, free, kept.set (k + 1) v, als, wls, ls, pa, px, _, va, vw, k0.step s2 (by omega), hA1.step s2 (by unfold IL; omega), kR.step s2 (by unfold RL; omega), by rw [← e1] at r2 ⊢; exact r2, hk2, kA.step s2 (by omega), kW.step s2 (by omega), kL.step s2 (by omega)⟩
    have FSt : Step (SL S) w o (w1.setCell ⟨gk, k + 1, none⟩ (Value.int .i64 v)) o := (s1.mono fun x hx => SL.ofIL hx).trans (s2.mono fun x hx => SL.ofEq (j := 8) (by omega) hx)
    clear h0 hA hR hK hk hAl hWl hL k0 kR kK kA kW kL s1 s2 r2 hk2 e1 hS hclk c0 c1 c2 c3 c4 hf hset hb
    go_wp2_with fail
    refine hhas.mono ?_
    rintro e w2 ⟨rfl, rfl⟩
    clear hhas
    go_wp2
    go_ret
    exact ⟨ret_bool (by simp), o, F, FSt⟩
  · have hb' : hasB n free x = false := by simpa using hb
    have hset := setOutInt w o (S + 1) pa room n (valsInt ts) free x v hb' hA
    have hhas := refHas w o (S + 5) px room n free x hR
    rw [hb'] at hhas
    clear h0 hA hR hK hk hAl hWl hL hb hb'
    go_enter Try.func42, Try.ntmps42
    go_wp2_with fail
    refine hset.mono ?_
    rintro e w1 ⟨rfl, rfl⟩
    go_wp2_with fail
    refine hhas.mono ?_
    rintro e w2 ⟨rfl, rfl⟩
    go_wp2
    go_ret
    exact ⟨ret_bool (by simp), o, ⟨room, n, ts, free, kept, als, wls, ls, hS⟩, Step.refl _ _ _⟩

end Go.Proofs.Ytbcpifklnbaooaa
