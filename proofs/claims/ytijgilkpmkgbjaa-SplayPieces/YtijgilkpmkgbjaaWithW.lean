/- Rising numbers with one more: the law's own function. -/
import Derived.Test.YtijgilkpmkgbjaaPcs
import Derived.Deep.LoopGhost
namespace Go.Proofs.Ytijgilkpmkgbjaa
open Go.ChangeShapes Go.WideShapes Go.ChangeAt Go.RowKit
set_option linter.unusedVariables false

theorem intsL_app (a b : List Nat) : intsL (a ++ b) = intsL a ++ intsL b := by simp [intsL]
/-- The state of the loop. -/
def WithS (w : World) (o : Nat → Nat) (lb : Nat) (fs : List Nat) (k i : Nat) (inb : Bool) (v : Value) (wr : World) : Prop :=
  ∃ out o', Row wr o' lb 3 1 v out.length (intsL out) ∧ Step (fun k => k = lb) w o wr o' ∧ out.length ≤ i + 1 ∧ ((inb = false ∧ out = fs.take i ∧ ∀ a ∈ fs.take i, a < k) ∨ (inb = true ∧ out ++ fs.drop i = ins fs k ∧ ∀ a ∈ fs.drop i, k < a))
/-- What it leaves. -/
def WithOut (w : World) (o : Nat → Nat) (lb : Nat) (fs : List Nat) (k : Nat) (e : Ending) (w' : World) : Prop :=
  ∃ v o', e = .returned v ∧ Row w' o' lb 3 1 v (ins fs k).length (intsL (ins fs k)) ∧ Step (fun k => k = lb) w o w' o'

theorem with_lt {fs out : List Nat} {k j : Nat} (hj : j < fs.length) (e : out = fs.take j) (h : ∀ a ∈ fs.take j, a < k) (ha : fs[j] < k) : out ++ [fs[j]] = fs.take (j + 1) ∧ ∀ a ∈ fs.take (j + 1), a < k := by
  have et : fs.take (j + 1) = fs.take j ++ [fs[j]] := List.take_succ_eq_append_getElem hj
  refine ⟨by rw [et, e], fun a hm => ?_⟩
  rw [et] at hm
  rcases List.mem_append.1 hm with hm | hm
  · exact h a hm
  · simp at hm; omega
theorem rising_drop {fs : List Nat} {j : Nat} (h : Rising fs) (hj : j < fs.length) : ∀ a ∈ fs.drop (j + 1), fs[j] < a := by
  have e : fs.drop j = fs[j] :: fs.drop (j + 1) := List.drop_eq_getElem_cons hj
  have := h.drop (i := j)
  rw [e, List.pairwise_cons] at this
  exact this.1
theorem with_eq {fs out : List Nat} {k j : Nat} (hr : Rising fs) (hj : j < fs.length) (e : out = fs.take j) (h : ∀ a ∈ fs.take j, a < k) (ha : fs[j] = k) : (out ++ [fs[j]]) ++ fs.drop (j + 1) = ins fs k ∧ ∀ a ∈ fs.drop (j + 1), k < a := by
  have ed : fs.drop j = fs[j] :: fs.drop (j + 1) := List.drop_eq_getElem_cons hj
  refine ⟨?_, fun a hm => by have := rising_drop hr hj a hm; omega⟩
  have ei : ins fs k = ins (fs.take j ++ fs.drop j) k := by rw [List.take_append_drop]
  rw [ei, ins_append h, ed, ins, if_neg (by omega), if_pos ha, e]
  simp
theorem with_gt {fs out : List Nat} {k j : Nat} (hr : Rising fs) (hj : j < fs.length) (e : out = fs.take j) (h : ∀ a ∈ fs.take j, a < k) (ha : k < fs[j]) : ((out ++ [k]) ++ [fs[j]]) ++ fs.drop (j + 1) = ins fs k ∧ ∀ a ∈ fs.drop (j + 1), k < a := by
  have ed : fs.drop j = fs[j] :: fs.drop (j + 1) := List.drop_eq_getElem_cons hj
  refine ⟨?_, fun a hm => by have := rising_drop hr hj a hm; omega⟩
  have ei : ins fs k = ins (fs.take j ++ fs.drop j) k := by rw [List.take_append_drop]
  rw [ei, ins_append h, ed, ins, if_neg (by omega), if_neg (by omega), e]
  simp
theorem with_in {fs out : List Nat} {k j : Nat} (hj : j < fs.length) (e : out ++ fs.drop j = ins fs k) (h : ∀ a ∈ fs.drop j, k < a) : (out ++ [fs[j]]) ++ fs.drop (j + 1) = ins fs k ∧ ∀ a ∈ fs.drop (j + 1), k < a := by
  have ed : fs.drop j = fs[j] :: fs.drop (j + 1) := List.drop_eq_getElem_cons hj
  rw [ed] at e h
  exact ⟨by rw [← e]; simp, fun a hm => h a (List.mem_cons_of_mem _ hm)⟩

set_option maxRecDepth 100000 in
set_option maxHeartbeats 8000000 in
theorem with_any (w : World) (o : Nat → Nat) (lb la : Nat) (vl : Value) (fs : List Nat) (k : Nat) (hv : Vw w o la vl fs) (hr : Rising fs) (hl : fs.length ≤ 30) (hk : k ≤ 1024) (hne : la ≠ lb) :
    Calls Try.prog 17 #[vl, .int .i64 k] w fun e w' => WithOut w o lb fs k e w' := by
  obtain ⟨ii, hii, hzi0, hzi1, hzi2⟩ := info_parts infoInt
  obtain ⟨ao, cap, rfl, hc, hmx, hp⟩ := hv
  have HP : Hid (∀ wx ox, Step (fun k => k = lb) w o wx ox → ∀ j (hj : j < fs.length), ∃ g off, ao = some ⟨g, off, none⟩ ∧ wx.cell? ⟨g, off + j, none⟩ = some (.int .i64 (fs[j] : Nat))) := fun wx ox s j hj => by
    obtain ⟨g, off, h1, h2, h3, h4⟩ := hp (by omega)
    exact ⟨g, off, h1, by rw [s.cell h3 (by rw [h2]; exact hne)]; exact h4 j hj⟩
  have START : WithS w o lb fs k 0 false (.slice none 0 0) w := ⟨[], o, Row.nil _ _ _ _ _, Step.refl _ _ _, by simp, .inl ⟨rfl, by simp, by simp⟩⟩
  have HR : Hid (Rising fs) := hr
  unfold maxLen at hmx
  clear hp hr
  go_enter Try.func17, Try.ntmps17
  go_wp2
  go_loopg [5, 6, 7] fs.length (fun gh vo vin i wr => ∃ (j : Nat) (b : Bool), i = .int .i64 (j : Nat) ∧ j ≤ fs.length ∧ gh = fs.length - j ∧ vin = .bool b ∧ WithS w o lb fs k j b vo wr)
  case atStart => exact ⟨0, false, by go_num, by omega, by omega, rfl, START⟩
  case round =>
    clear START
    obtain ⟨j, b, rfl, hj, rfl, rfl, out, o3, r3, s3, hol, hcase⟩ := hrel
    obtain ⟨ar, cr, rfl⟩ := r3.form
    have HCS : Hid ((b = false ∧ out = fs.take j ∧ ∀ a ∈ fs.take j, a < k) ∨ (b = true ∧ out ++ fs.drop j = ins fs k ∧ ∀ a ∈ fs.drop j, k < a)) := hcase
    by_cases hlt : j < fs.length
    · obtain ⟨g, off, rfl, cj⟩ := HP.out _ _ s3 j hlt
      have hjI : (j : Int) < (fs.length : Int) := by omega
      have hol2 : out.length ≤ 31 := by omega
      obtain ⟨x, hx⟩ : ∃ x, x = fs[j] := ⟨_, rfl⟩
      rw [← hx] at cj
      rcases hcase with ⟨rfl, hout, hall⟩ | ⟨rfl, hout, hall⟩
      · rcases Nat.lt_trichotomy fs[j] k with hc | hc | hc
        · have hxk : ¬ (k : Int) < (x : Int) := by rw [hx]; omega
          have hxk2 : ((x : Int) == (k : Int)) = false := by simp only [beq_eq_false_iff_ne, ne_eq]; rw [hx]; omega
          have HN : Hid (out ++ [x] = fs.take (j + 1) ∧ ∀ a ∈ fs.take (j + 1), a < k) := by
            show _ ∧ _
            rw [hx]; exact with_lt hlt hout hall hc
          clear hx hout hall hc
          go_wp2_with (first | (at_builtin; refine wpList_append_lab rfl (.tmp 37) (.tmp 42) 42 rfl 3 ii (.int .i64 0) 1 8 Try.underlying42 hii hzi0 hzi1 hzi2 rfl (by decide) o3 lb _ out.length (intsL out) rfl (r3.step (allocStep (fun _ => False) _ o3 _) (by simp)) ⟨wr.heap.size, 0, none⟩ 1 1 [.int .i64 (x : Nat)] rfl rfl (new_one_at (by simp) _ _) (by intro u hu; simp at hu; subst hu; rfl) (by decide) (by unfold maxLen; omega) (by omega) ?_) | go_in)
          intro g6 c6 w6 o6 r6 s6
          have R : WithS w o lb fs k (j + 1) false (.slice (some ⟨g6, 0, none⟩) (out.length + 1) c6) w6 := by
            refine ⟨out ++ [x], o6, ?_, s3.trans ((allocStep (fun k => k = lb) wr o3 _).trans s6), by simp; omega, .inl ⟨rfl, HN.out.1, HN.out.2⟩⟩
            rw [List.length_append, intsL_app]
            exact r6
          clear r3 r6 s6 s3 cj
          go_wp2
          go_roundg (fs.length - (j + 1))
          case measure => omega
          case rel => exact ⟨j + 1, false, by go_num, by omega, rfl, rfl, R⟩
        · have hxk : x = k := by rw [hx]; exact hc
          have HN : Hid ((out ++ [x]) ++ fs.drop (j + 1) = ins fs k ∧ ∀ a ∈ fs.drop (j + 1), k < a) := by
            show _ ∧ _
            rw [hx]; exact with_eq HR.out hlt hout hall hc
          clear hx hout hall hc
          subst hxk
          go_wp2_with (first | (at_builtin; refine wpList_append_lab rfl (.tmp 37) (.tmp 42) 42 rfl 3 ii (.int .i64 0) 1 8 Try.underlying42 hii hzi0 hzi1 hzi2 rfl (by decide) o3 lb _ out.length (intsL out) rfl (r3.step (allocStep (fun _ => False) _ o3 _) (by simp)) ⟨wr.heap.size, 0, none⟩ 1 1 [.int .i64 (x : Nat)] rfl rfl (new_one_at (by simp) _ _) (by intro u hu; simp at hu; subst hu; rfl) (by decide) (by unfold maxLen; omega) (by omega) ?_) | go_in)
          intro g6 c6 w6 o6 r6 s6
          have R : WithS w o lb fs x (j + 1) true (.slice (some ⟨g6, 0, none⟩) (out.length + 1) c6) w6 := by
            refine ⟨out ++ [x], o6, ?_, s3.trans ((allocStep (fun k => k = lb) wr o3 _).trans s6), by simp; omega, .inr ⟨rfl, HN.out.1, HN.out.2⟩⟩
            rw [List.length_append, intsL_app]
            exact r6
          clear r3 r6 s6 s3 cj
          go_wp2
          go_roundg (fs.length - (j + 1))
          case measure => omega
          case rel => exact ⟨j + 1, true, by go_num, by omega, rfl, rfl, R⟩
        · have hxk : (k : Int) < (x : Int) := by rw [hx]; omega
          have HN : Hid (((out ++ [k]) ++ [x]) ++ fs.drop (j + 1) = ins fs k ∧ ∀ a ∈ fs.drop (j + 1), k < a) := by
            show _ ∧ _
            rw [hx]; exact with_gt HR.out hlt hout hall hc
          have holj : out.length ≤ j := by rw [hout]; simp; omega
          have HPJ : Hid (∀ wx ox, Step (fun k => k = lb) w o wx ox → wx.cell? ⟨g, off + j, none⟩ = some (.int .i64 (x : Nat))) := fun wx ox s => by
            obtain ⟨g', off', e1, e2⟩ := HP.out wx ox s j hlt
            simp only [Option.some.injEq, Addr.mk.injEq, and_true] at e1
            obtain ⟨rfl, rfl⟩ := e1
            rw [hx]; exact e2
          clear hx hout hall hc
          go_wp2_with (first | (at_builtin; refine wpList_append_lab rfl (.tmp 24) (.tmp 26) 42 rfl 3 ii (.int .i64 0) 1 8 Try.underlying42 hii hzi0 hzi1 hzi2 rfl (by decide) o3 lb _ out.length (intsL out) rfl (r3.step (allocStep (fun _ => False) _ o3 _) (by simp)) ⟨wr.heap.size, 0, none⟩ 1 1 [.int .i64 (k : Nat)] rfl rfl (new_one_at (by simp) _ _) (by intro u hu; simp at hu; subst hu; rfl) (by decide) (by unfold maxLen; omega) (by omega) ?_) | go_in)
          intro g6 c6 w6 o6 r6 s6
          have s6' := s3.trans ((allocStep (fun k => k = lb) wr o3 _).trans s6)
          have r6' : Row w6 o6 lb 3 1 (.slice (some ⟨g6, 0, none⟩) (out.length + 1) c6) (out ++ [k]).length (intsL (out ++ [k])) := by
            rw [List.length_append, intsL_app]; exact r6
          have cj := HPJ.out _ _ s6'
          obtain ⟨out2, ho2⟩ : ∃ out2, out2 = out ++ [k] := ⟨_, rfl⟩
          have hol3 : out.length + 1 = out2.length := by rw [ho2]; simp
          have HO2 : Hid (out2 = out ++ [k]) := ho2
          rw [← ho2] at r6'
          rw [hol3] at r6' ⊢
          have hol4 : out2.length ≤ 32 := by omega
          have hol5 : out2.length ≤ j + 1 := by omega
          clear r3 r6 s6 s3 ho2 hol3
          go_wp2_with (first | (at_builtin; refine wpList_append_lab rfl (.tmp 37) (.tmp 42) 42 rfl 3 ii (.int .i64 0) 1 8 Try.underlying42 hii hzi0 hzi1 hzi2 rfl (by decide) o6 lb _ out2.length (intsL out2) rfl (r6'.step (allocStep (fun _ => False) _ o6 _) (by simp)) ⟨w6.heap.size, 0, none⟩ 1 1 [.int .i64 (x : Nat)] rfl rfl (new_one_at (by simp) _ _) (by intro u hu; simp at hu; subst hu; rfl) (by decide) (by unfold maxLen; omega) (by omega) ?_) | go_in)
          intro g7 c7 w7 o7 r7 s7
          have R : WithS w o lb fs k (j + 1) true (.slice (some ⟨g7, 0, none⟩) (out2.length + 1) c7) w7 := by
            refine ⟨out2 ++ [x], o7, ?_, s6'.trans ((allocStep (fun k => k = lb) w6 o6 _).trans s7), by simp; omega, .inr ⟨rfl, by rw [HO2.out]; exact HN.out.1, HN.out.2⟩⟩
            rw [List.length_append, intsL_app]
            exact r7
          clear r6' r7 s7 s6' cj
          go_wp2
          go_roundg (fs.length - (j + 1))
          case measure => omega
          case rel => exact ⟨j + 1, true, by go_num, by omega, rfl, rfl, R⟩
      · have HN : Hid ((out ++ [x]) ++ fs.drop (j + 1) = ins fs k ∧ ∀ a ∈ fs.drop (j + 1), k < a) := by
          show _ ∧ _
          rw [hx]; exact with_in hlt hout hall
        clear hx hout hall
        go_wp2_with (first | (at_builtin; refine wpList_append_lab rfl (.tmp 37) (.tmp 42) 42 rfl 3 ii (.int .i64 0) 1 8 Try.underlying42 hii hzi0 hzi1 hzi2 rfl (by decide) o3 lb _ out.length (intsL out) rfl (r3.step (allocStep (fun _ => False) _ o3 _) (by simp)) ⟨wr.heap.size, 0, none⟩ 1 1 [.int .i64 (x : Nat)] rfl rfl (new_one_at (by simp) _ _) (by intro u hu; simp at hu; subst hu; rfl) (by decide) (by unfold maxLen; omega) (by omega) ?_) | go_in)
        intro g6 c6 w6 o6 r6 s6
        have R : WithS w o lb fs k (j + 1) true (.slice (some ⟨g6, 0, none⟩) (out.length + 1) c6) w6 := by
          refine ⟨out ++ [x], o6, ?_, s3.trans ((allocStep (fun k => k = lb) wr o3 _).trans s6), by simp; omega, .inr ⟨rfl, HN.out.1, HN.out.2⟩⟩
          rw [List.length_append, intsL_app]
          exact r6
        clear r3 r6 s6 s3 cj
        go_wp2
        go_roundg (fs.length - (j + 1))
        case measure => omega
        case rel => exact ⟨j + 1, true, by go_num, by omega, rfl, rfl, R⟩
    · obtain rfl : j = fs.length := by omega
      rcases hcase with ⟨rfl, hout, hall⟩ | ⟨rfl, hout, hall⟩
      · have HE : Hid (out ++ [k] = ins fs k) := by
          show _ = _
          rw [List.take_length] at hout hall
          have := ins_append (B := []) hall
          rw [List.append_nil] at this
          rw [this, hout]; rfl
        have hol2 : out.length ≤ 31 := by omega
        clear hout hall
        go_wp2_with (first | (at_builtin; refine wpList_append_lab rfl (.tmp 46) (.tmp 48) 42 rfl 3 ii (.int .i64 0) 1 8 Try.underlying42 hii hzi0 hzi1 hzi2 rfl (by decide) o3 lb _ out.length (intsL out) rfl (r3.step (allocStep (fun _ => False) _ o3 _) (by simp)) ⟨wr.heap.size, 0, none⟩ 1 1 [.int .i64 (k : Nat)] rfl rfl (new_one_at (by simp) _ _) (by intro u hu; simp at hu; subst hu; rfl) (by decide) (by unfold maxLen; omega) (by omega) ?_) | go_in)
        intro g6 c6 w6 o6 r6 s6
        have R : Row w6 o6 lb 3 1 (.slice (some ⟨g6, 0, none⟩) (out.length + 1) c6) (ins fs k).length (intsL (ins fs k)) := by
          rw [← HE.out, List.length_append, intsL_app]
          exact r6
        have S6 := s3.trans ((allocStep (fun k => k = lb) wr o3 _).trans s6)
        clear r3 r6 s6 s3
        go_wp2
        go_ret
        exact ⟨_, o6, rfl, R, S6⟩
      · have HE : Hid (out = ins fs k) := by
          show _ = _
          rw [← hout]; simp
        clear hout hall
        go_wp2
        go_ret
        refine ⟨_, o3, rfl, ?_, s3⟩
        rw [← HE.out]; exact r3

end Go.Proofs.Ytijgilkpmkgbjaa
