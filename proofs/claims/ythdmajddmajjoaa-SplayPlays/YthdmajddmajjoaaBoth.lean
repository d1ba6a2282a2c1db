/- Both forests of one plain state answer alike. -/
import Derived.Test.YthdmajddmajjoaaRefU
import Derived.Test.YthdmajddmajjoaaSpecs
namespace Go.Proofs.Ythdmajddmajjoaa
open Go.ChangeShapes Go.WideShapes Go.ChangeAt Go.RowKit
set_option linter.unusedVariables false

/-- The document's forest of a plain state: at most M lists. -/
def RxS (w : World) (o : Nat → Nat) (R q room M : Nat) (s : Sta) : Prop := ∃ pa vi vn vl its inL ls LL, Rx w o R q room s.n M s.free s.it s.S pa vi vn vl its inL ls LL
theorem RxS.step {I : Nat → Prop} {w w' : World} {o o' : Nat → Nat} {R q room M : Nat} {s : Sta} (h : RxS w o R q room M s) (st : Step I w o w' o') (hi : ∀ k, XL R k → ¬ I k) : RxS w' o' R q room M s := by
  obtain ⟨pa, vi, vn, vl, its, inL, ls, LL, X⟩ := h
  exact ⟨pa, vi, vn, vl, its, inL, ls, LL, X.step st hi⟩
theorem RxS.more {w : World} {o : Nat → Nat} {R q room M : Nat} {s : Sta} (h : RxS w o R q room M s) (hM : M < 5500000000000) : RxS w o R q room (M + 1) s := by
  obtain ⟨pa, vi, vn, vl, its, inL, ls, LL, X⟩ := h
  exact ⟨pa, vi, vn, vl, its, inL, ls, LL, X.more hM⟩
/-- A call of the document's forest answers v, and leaves the state t, whatever the memory. -/
def XActs (room M : Nat) (s : Sta) (fn : FuncId) (args : Nat → Array Value) (v : Value) (t : Sta) : Prop :=
  ∀ w o R q, RxS w o R q room M s → Calls Try.prog fn (args q) w fun e w' => e = .returned v ∧ ∃ o', RxS w' o' R q room (M + 1) t ∧ Step (XL R) w o w' o'
theorem xquiet {room M : Nat} {s : Sta} {fn : FuncId} {args : Nat → Array Value} {v : Value} (hM : M < 5500000000000) (h : ∀ w o R q pa vi vn vl its inL ls LL, Rx w o R q room s.n M s.free s.it s.S pa vi vn vl its inL ls LL → Calls Try.prog fn (args q) w fun e w' => e = .returned v ∧ Below w.heap.size w w') : XActs room M s fn args v s := fun w o R q X => by
  have X' := X
  obtain ⟨pa, vi, vn, vl, its, inL, ls, LL, X⟩ := X
  refine (h w o R q pa vi vn vl its inL ls LL X).mono ?_
  rintro e w' ⟨rfl, b⟩
  have st : Step (fun _ => False) w o w' o := Step.ofBelow' o b
  exact ⟨rfl, o, (X'.step st (fun _ _ => id)).more hM, st.mono fun _ hh => hh.elim⟩
section
variable {w0 : World} {o0' : Nat → Nat} {L0 p0 room M : Nat} {s : Sta}
theorem getBoth (F0 : FoS w0 o0' L0 p0 room s) (hM : M < 5500000000000) (x : Int) : ∃ (y : It) (r : Int), Acts room s 25 (fun p => #[pv p, .int .i64 x]) (.tuple #[itemV y, .int .i64 r]) s ∧ XActs room M s 26 (fun p => #[pv p, .int .i64 x]) (.tuple #[itemV y, .int .i64 r]) s := by
  by_cases hb : hasB s.n s.free x = true
  · obtain ⟨h, rfl, hl⟩ := Live.of hb
    exact ⟨s.it h, 0, quietAct fun w o L p F => getInF w o L p room s.n s.free s.it s.S h F hl, xquiet hM fun w o R q pa vi vn vl its inL ls LL X => x_get_in h X hl⟩
  · exact ⟨⟨0, false, 0⟩, 31, quietAct fun w o L p F => getOutF w o L p room s.n s.free s.it s.S x F (by simpa using hb), xquiet hM fun w o R q pa vi vn vl its inL ls LL X => x_get_out x X (by simpa using hb)⟩
theorem sumBoth (F0 : FoS w0 o0' L0 p0 room s) (hM : M < 5500000000000) (x : Int) : ∃ (G : Ag) (r : Int), Acts room s 12 (fun p => #[pv p, .int .i64 x]) (.tuple #[aggV G, .int .i64 r]) s ∧ XActs room M s 32 (fun p => #[pv p, .int .i64 x]) (.tuple #[aggV G, .int .i64 r]) s := by
  by_cases hb : hasB s.n s.free x = true
  · obtain ⟨h, rfl, hl⟩ := Live.of hb
    refine ⟨agg ((s.S h).map s.it), 0, fun w o L p F => sumInF w o L p room s.n s.free s.it s.S h F hl, fun w o R q X => ?_⟩
    obtain ⟨pa, vi, vn, vl, its, inL, ls, LL, X⟩ := X
    refine (x_sum_in h X hl (fun j hj => Fo.may F0 hj)).mono ?_
    rintro e w' ⟨rfl, o', X', st⟩
    exact ⟨rfl, o', ⟨_, _, _, _, _, _, _, _, X'.more hM⟩, st⟩
  · exact ⟨Ag.zero, 31, quietAct fun w o L p F => sumOutF w o L p room s.n s.free s.it s.S x F (by simpa using hb), xquiet hM fun w o R q pa vi vn vl its inL ls LL X => x_sum_out x X (by simpa using hb)⟩
theorem sameBoth (F0 : FoS w0 o0' L0 p0 room s) (hM : M < 5500000000000) (x y : Int) : ∃ (b : Bool) (r : Int), Acts room s 27 (fun p => #[pv p, .int .i64 x, .int .i64 y]) (.tuple #[.bool b, .int .i64 r]) s ∧ XActs room M s 28 (fun p => #[pv p, .int .i64 x, .int .i64 y]) (.tuple #[.bool b, .int .i64 r]) s := by
  by_cases hb : hasB s.n s.free x = true
  · obtain ⟨h, rfl, hl⟩ := Live.of hb
    by_cases hb2 : hasB s.n s.free y = true
    · obtain ⟨h2, rfl, hl2⟩ := Live.of hb2
      exact ⟨_, 0, fun w o L p F => sameInF w o L p room s.n s.free s.it s.S h h2 F hl hl2, xquiet hM fun w o R q pa vi vn vl its inL ls LL X => x_same_in h h2 X hl hl2⟩
    · exact ⟨false, 31, stillAct fun w o L p F => sameOutB w o L p room s.n s.free s.it s.S h y F hl (by simpa using hb2), xquiet hM fun w o R q pa vi vn vl its inL ls LL X => x_same_outA _ y X (.inr (by simpa using hb2))⟩
  · exact ⟨false, 31, stillAct fun w o L p F => sameOutA w o L p room s.n s.free s.it s.S x y F (by simpa using hb), xquiet hM fun w o R q pa vi vn vl its inL ls LL X => x_same_outA x y X (.inl (by simpa using hb))⟩
theorem rankBoth (F0 : FoS w0 o0' L0 p0 room s) (hM : M < 5500000000000) (x : Int) : ∃ (m r : Int), Acts room s 13 (fun p => #[pv p, .int .i64 x]) (.tuple #[.int .i64 m, .int .i64 r]) s ∧ XActs room M s 29 (fun p => #[pv p, .int .i64 x]) (.tuple #[.int .i64 m, .int .i64 r]) s := by
  by_cases hb : hasB s.n s.free x = true
  · obtain ⟨h, rfl, hl⟩ := Live.of hb
    obtain ⟨A, B, hAB⟩ := List.append_of_mem (Fo.self F0 hl)
    exact ⟨(A.length : Nat), 0, fun w o L p F => rankInF w o L p room s.n s.free s.it s.S h A B F hl hAB, xquiet hM fun w o R q pa vi vn vl its inL ls LL X => x_rank_in h A B X hl hAB⟩
  · exact ⟨0, 31, stillAct fun w o L p F => rankOutF w o L p room s.n s.free s.it s.S x F (by simpa using hb), xquiet hM fun w o R q pa vi vn vl its inL ls LL X => x_rank_out x X (by simpa using hb)⟩
theorem atBoth (F0 : FoS w0 o0' L0 p0 room s) (hM : M < 5500000000000) (x k : Int) : ∃ (m r : Int), Acts room s 30 (fun p => #[pv p, .int .i64 x, .int .i64 k]) (.tuple #[.int .i64 m, .int .i64 r]) s ∧ XActs room M s 31 (fun p => #[pv p, .int .i64 x, .int .i64 k]) (.tuple #[.int .i64 m, .int .i64 r]) s := by
  by_cases hb : hasB s.n s.free x = true
  · obtain ⟨h, rfl, hl⟩ := Live.of hb
    by_cases hk : k < 0
    · exact ⟨0, 34, stillAct fun w o L p F => atNegF w o L p room s.n s.free s.it s.S h k F hl hk, xquiet hM fun w o R q pa vi vn vl its inL ls LL X => x_at_bad h k X hl (.inl hk)⟩
    · by_cases hk2 : ((s.S h).length : Int) ≤ k
      · exact ⟨0, 34, fun w o L p F => atBigF w o L p room s.n s.free s.it s.S h k F hl hk2, xquiet hM fun w o R q pa vi vn vl its inL ls LL X => x_at_bad h k X hl (.inr hk2)⟩
      · obtain ⟨j, rfl⟩ : ∃ j : Nat, k = j := ⟨k.toNat, by omega⟩
        have hj : j < (s.S h).length := by omega
        exact ⟨((s.S h)[j] : Nat), 0, fun w o L p F => atInF w o L p room s.n s.free s.it s.S h j _ F hl (List.getElem?_eq_getElem hj), xquiet hM fun w o R q pa vi vn vl its inL ls LL X => x_at_in h j X hl hj⟩
  · exact ⟨0, 31, stillAct fun w o L p F => atOutF w o L p room s.n s.free s.it s.S x k F (by simpa using hb), xquiet hM fun w o R q pa vi vn vl its inL ls LL X => x_at_out x k X (by simpa using hb)⟩
theorem flagBoth (F0 : FoS w0 o0' L0 p0 room s) (hM : M < 5500000000000) (x f : Int) : ∃ (m r : Int), Acts room s 14 (fun p => #[pv p, .int .i64 x, .int .i64 f]) (.tuple #[.int .i64 m, .int .i64 r]) s ∧ XActs room M s 33 (fun p => #[pv p, .int .i64 x, .int .i64 f]) (.tuple #[.int .i64 m, .int .i64 r]) s := by
  by_cases hb : hasB s.n s.free x = true
  · obtain ⟨h, rfl, hl⟩ := Live.of hb
    by_cases hf : f < 0 ∨ 255 < f
    · exact ⟨0, 1, stillAct fun w o L p F => flagBadF w o L p room s.n s.free s.it s.S h f F hl hf, xquiet hM fun w o R q pa vi vn vl its inL ls LL X => x_flag_bad h f X hl hf⟩
    · obtain ⟨g, rfl⟩ : ∃ g : Nat, f = g := ⟨f.toNat, by omega⟩
      rcases first_of (fun k => (s.it k).f &&& g ≠ 0) (fun k => Classical.em _) (s.S h) with hn | ⟨A, b, B, e, hn, hb'⟩
      · exact ⟨0, 35, fun w o L p F => flagNoneF w o L p room s.n s.free s.it s.S h g F hl (by omega) (fun k hk => Classical.byContradiction (hn k hk)), xquiet hM fun w o R q pa vi vn vl its inL ls LL X => x_flag h g (s.S h) [] X hl (by omega) (fun j hj => Fo.may F0 hj) (by simp) (fun k hk => Classical.byContradiction (hn k hk)) (fun b C hb => by cases hb)⟩
      · exact ⟨(b : Nat), 0, fun w o L p F => flagInF w o L p room s.n s.free s.it s.S h g b A B F hl (by omega) e (fun k hk => Classical.byContradiction (hn k hk)) hb', xquiet hM fun w o R q pa vi vn vl its inL ls LL X => x_flag h g A (b :: B) X hl (by omega) (fun j hj => Fo.may F0 hj) e (fun k hk => Classical.byContradiction (hn k hk)) (fun b' C hb => by injection hb with h1 h2; subst h1; exact hb')⟩
  · exact ⟨0, 31, stillAct fun w o L p F => flagOutF w o L p room s.n s.free s.it s.S x f F (by simpa using hb), xquiet hM fun w o R q pa vi vn vl its inL ls LL X => x_flag_out x f X (by simpa using hb)⟩
theorem splitBoth (F0 : FoS w0 o0' L0 p0 room s) (hM : M < 5500000000000) (x : Int) : ∃ (r : Int) (t : Sta), Acts room s 23 (fun p => #[pv p, .int .i64 x]) (.int .i64 r) t ∧ XActs room M s 24 (fun p => #[pv p, .int .i64 x]) (.int .i64 r) t := by
  by_cases hb : hasB s.n s.free x = true
  · obtain ⟨h, rfl, hl⟩ := Live.of hb
    obtain ⟨A, B, hAB⟩ := List.append_of_mem (Fo.self F0 hl)
    refine ⟨0, ⟨s.n, s.free, s.it, splitS s.S A h B⟩, fun w o L p F => splitInF w o L p room s.n s.free s.it s.S h A B F hl hAB, fun w o R q X => ?_⟩
    obtain ⟨pa, vi, vn, vl, its, inL, ls, LL, X⟩ := X
    by_cases hA : A = []
    · subst hA
      refine (x_split_none h B X hl hAB).mono ?_
      rintro e w' ⟨rfl, b⟩
      have st : Step (fun _ => False) w o w' o := Step.ofBelow' o b
      exact ⟨rfl, o, ⟨_, _, _, _, _, _, _, _, ((X.step st (fun _ _ => id)).splitNone hl hAB).more hM⟩, st.mono fun _ hh => hh.elim⟩
    · refine (x_split_in h A B X hl hAB hA hM).mono ?_
      rintro e w' ⟨rfl, o', vl', inL', ls', LL', X', st⟩
      exact ⟨rfl, o', ⟨_, _, _, _, _, _, _, _, X'⟩, st⟩
  · exact ⟨31, s, stillAct fun w o L p F => splitOutF w o L p room s.n s.free s.it s.S x F (by simpa using hb), xquiet hM fun w o R q pa vi vn vl its inL ls LL X => x_split_out x X (by simpa using hb)⟩
theorem joinBoth (F0 : FoS w0 o0' L0 p0 room s) (hM : M < 5500000000000) (x y : Int) : ∃ (r : Int) (t : Sta), Acts room s 11 (fun p => #[pv p, .int .i64 x, .int .i64 y]) (.int .i64 r) t ∧ XActs room M s 22 (fun p => #[pv p, .int .i64 x, .int .i64 y]) (.int .i64 r) t := by
  by_cases hb : hasB s.n s.free x = true
  · obtain ⟨h, rfl, hl⟩ := Live.of hb
    by_cases hb2 : hasB s.n s.free y = true
    · obtain ⟨h2, rfl, hl2⟩ := Live.of hb2
      by_cases hs : s.S h = s.S h2
      · exact ⟨33, s, fun w o L p F => joinSameF w o L p room s.n s.free s.it s.S h h2 F hl hl2 hs, xquiet hM fun w o R q pa vi vn vl its inL ls LL X => x_join_same h h2 X hl hl2 hs⟩
      · refine ⟨0, ⟨s.n, s.free, s.it, joinS s.S h h2⟩, fun w o L p F => joinInF w o L p room s.n s.free s.it s.S h h2 F hl hl2 hs, fun w o R q X => ?_⟩
        obtain ⟨pa, vi, vn, vl, its, inL, ls, LL, X⟩ := X
        refine (x_join_in h h2 X hl hl2 hs).mono ?_
        rintro e w' ⟨rfl, o', inL', ls', LL', X', st⟩
        exact ⟨rfl, o', ⟨_, _, _, _, _, _, _, _, X'.more hM⟩, st⟩
    · exact ⟨31, s, stillAct fun w o L p F => joinOutB w o L p room s.n s.free s.it s.S h y F hl (by simpa using hb2), xquiet hM fun w o R q pa vi vn vl its inL ls LL X => x_join_out _ y X (.inr (by simpa using hb2))⟩
  · exact ⟨31, s, stillAct fun w o L p F => joinOutA w o L p room s.n s.free s.it s.S x y F (by simpa using hb), xquiet hM fun w o R q pa vi vn vl its inL ls LL X => x_join_out x y X (.inl (by simpa using hb))⟩
theorem freeBoth (F0 : FoS w0 o0' L0 p0 room s) (hM : M < 5500000000000) (x : Int) : ∃ (r : Int) (t : Sta), Acts room s 18 (fun p => #[pv p, .int .i64 x]) (.int .i64 r) t ∧ XActs room M s 19 (fun p => #[pv p, .int .i64 x]) (.int .i64 r) t := by
  by_cases hb : hasB s.n s.free x = true
  · obtain ⟨h, rfl, hl⟩ := Live.of hb
    by_cases hs : s.S h = [h]
    · refine ⟨0, ⟨s.n, s.free ++ [h], s.it, s.S⟩, fun w o L p F => freeInF w o L p room s.n s.free s.it s.S h F hl hs, fun w o R q X => ?_⟩
      obtain ⟨pa, vi, vn, vl, its, inL, ls, LL, X⟩ := X
      refine (x_free_in h X hl hs).mono ?_
      rintro e w' ⟨rfl, o', ls', LL', X', st⟩
      exact ⟨rfl, o', ⟨_, _, _, _, _, _, _, _, X'.more hM⟩, st⟩
    · exact ⟨32, s, stillAct fun w o L p F => freeBusyF w o L p room s.n s.free s.it s.S h F hl hs, xquiet hM fun w o R q pa vi vn vl its inL ls LL X => x_free_busy h X hl hs⟩
  · exact ⟨31, s, stillAct fun w o L p F => freeOutF w o L p room s.n s.free s.it s.S x F (by simpa using hb), xquiet hM fun w o R q pa vi vn vl its inL ls LL X => x_free_out x X (by simpa using hb)⟩
theorem setBoth (F0 : FoS w0 o0' L0 p0 room s) (hM : M < 5500000000000) (x v : Int) (c : Bool) (f : Int) : ∃ (r : Int) (t : Sta), Acts room s 20 (fun p => #[pv p, .int .i64 x, itemR v c f]) (.int .i64 r) t ∧ XActs room M s 21 (fun p => #[pv p, .int .i64 x, itemR v c f]) (.int .i64 r) t := by
  by_cases hb : hasB s.n s.free x = true
  · obtain ⟨h, rfl, hl⟩ := Live.of hb
    by_cases hm : mayB v f = true
    · obtain ⟨y, hy, _, _, _, e⟩ := mayB_it c hm
      rw [e]
      refine ⟨0, ⟨s.n, s.free, upd s.it h y, s.S⟩, fun w o L p F => setInF w o L p room s.n s.free s.it s.S h y F hl hy, fun w o R q X => ?_⟩
      obtain ⟨pa, vi, vn, vl, its, inL, ls, LL, X⟩ := X
      refine (x_set_in h y X hl hy).mono ?_
      rintro e w' ⟨rfl, o', X', st⟩
      exact ⟨rfl, o', ⟨_, _, _, _, _, _, _, _, X'.more hM⟩, st⟩
    · exact ⟨1, s, quietAct fun w o L p F => setBadF w o L p room s.n s.free s.it s.S h v c f F hl (by simpa using hm), xquiet hM fun w o R q pa vi vn vl its inL ls LL X => x_set_bad h v c f X hl (by simpa using hm)⟩
  · exact ⟨31, s, quietAct fun w o L p F => setOutF w o L p room s.n s.free s.it s.S x v c f F (by simpa using hb), xquiet hM fun w o R q pa vi vn vl its inL ls LL X => x_set_out x v c f X (by simpa using hb)⟩
theorem makeBoth (F0 : FoS w0 o0' L0 p0 room s) (hM : M < 5500000000000) (hr : room ≤ 1024) (v : Int) (c : Bool) (f : Int) : ∃ (m r : Int) (t : Sta), Acts room s 10 (fun p => #[pv p, itemR v c f]) (.tuple #[.int .i64 m, .int .i64 r]) t ∧ XActs room M s 17 (fun p => #[pv p, itemR v c f]) (.tuple #[.int .i64 m, .int .i64 r]) t := by
  by_cases hm : mayB v f = true
  · obtain ⟨y, hy, _, _, _, e⟩ := mayB_it c hm
    rw [e]
    have hwf : WF room s.n s.free := Fo.wf F0
    by_cases hfull : s.n - s.free.length = room
    · refine ⟨0, 30, s, fun w o L p F => ?_, xquiet hM fun w o R q pa vi vn vl its inL ls LL X => x_make_full y X hy hfull⟩
      refine (makeFullF w o L p room s.n s.free s.it s.S y F hy hfull).mono ?_
      rintro e w' ⟨rfl, o', st⟩
      exact ⟨rfl, o', F.quiet st, st.ff⟩
    · obtain ⟨n, free, it, S⟩ := s
      cases hrv : free.reverse with
      | nil =>
        have hf : free = [] := by simpa using hrv
        subst hf
        have hle : n ≤ room := hwf.le
        have hlt : n < room := by simp at hfull; omega
        refine ⟨(n + 1 : Nat), 0, ⟨n + 1, [], upd it (n + 1) y, upd S (n + 1) [n + 1]⟩, fun w o L p F => makePushF w o L p room n it S y F hy hlt, fun w o R q X => ?_⟩
        obtain ⟨pa, vi, vn, vl, its, inL, ls, LL, X⟩ := X
        refine (x_make_push (n + 1) y X hy hM hlt hr rfl).mono ?_
        rintro e w' ⟨rfl, o', vi', vn', vl', its', inL', ls', LL', X', st⟩
        exact ⟨rfl, o', ⟨_, _, _, _, _, _, _, _, X'⟩, st⟩
      | cons a fs =>
        have hf : free = fs.reverse ++ [a] := by have := congrArg List.reverse hrv; simpa using this
        have ha : 1 ≤ a := (hwf.mem a (by show a ∈ free; rw [hf]; simp)).1
        obtain ⟨k, rfl⟩ : ∃ k, a = k + 1 := ⟨a - 1, by omega⟩
        subst hf
        refine ⟨(k + 1 : Nat), 0, ⟨n, fs.reverse, upd it (k + 1) y, upd S (k + 1) [k + 1]⟩, fun w o L p F => makePopF w o L p room n fs.reverse k it S y F hy, fun w o R q X => ?_⟩
        obtain ⟨pa, vi, vn, vl, its, inL, ls, LL, X⟩ := X
        refine (x_make_pop (k + 1) fs.reverse y X hy hM).mono ?_
        rintro e w' ⟨rfl, o', vi', vn', vl', its', inL', ls', LL', X', st⟩
        exact ⟨rfl, o', ⟨_, _, _, _, _, _, _, _, X'⟩, st⟩
  · exact ⟨0, 1, s, quietAct fun w o L p F => makeBadF w o L p room s.n s.free s.it s.S v c f F (by simpa using hm), xquiet hM fun w o R q pa vi vn vl its inL ls LL X => x_make_bad v c f (by simpa using hm)⟩
end
end Go.Proofs.Ythdmajddmajjoaa
