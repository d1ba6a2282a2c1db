/- Insert: an edge comes, or it is refused. -/
import Derived.Test.YtffmlffhiimmdaaSetW
namespace Go.Proofs.Ytffmlffhiimmdaa
open Go.ChangeShapes Go.WideShapes Go.ChangeAt Go.RowKit Go.Maps
set_option linter.unusedVariables false

theorem has7 (w : World) (o : Nat → Nat) (L p n bm q : Nat) (v : Nat) (B : Blk w o L p (.cells #[.int .i64 n, .map (some bm), .pointer (some ⟨q, 0, none⟩)] 68 (0, 0))) (hv : v < n) :
    Calls Try.prog 35 #[.pointer (some ⟨p, 0, none⟩), .int .i64 v] w fun e w' => e = .returned (.bool true) ∧ w' = w := by
  obtain ⟨⟨p0, p1, p2⟩, pf⟩ := B.cell3
  have h1 : (v : Int) < (n : Int) := by omega
  have h0 : (0 : Int) ≤ (v : Int) := by omega
  clear B
  go_enter Try.func35, Try.ntmps35
  go_wp2
  go_ret
  exact ⟨by first | rfl | exact ret_bool (by simp [h0, h1]), rfl⟩

set_option maxRecDepth 100000 in
set_option maxHeartbeats 4000000 in
theorem insert_ok (w : World) (o : Nat → Nat) (L p n : Nat) (D ed : Nat → Option Ed) (m c i u v : Nat) (wt : Int) (X : Mx w o L p n D ed m c) (hu : u < n) (hv : v < n) (huv : u ≠ v) (hi : i ≤ 1099511627776) (hw : -1099511627776 ≤ wt ∧ wt ≤ 1099511627776) (ni : D i = none) (hm : m < 192) (hc : c ≤ 10000) :
    Calls Try.prog 16 #[.pointer (some ⟨p, 0, none⟩), .int .i64 (i : Nat), .int .i64 (u : Nat), .int .i64 (v : Nat), .int .i64 wt] w fun e w' => e = .returned (.int .i64 0) ∧ ∃ o' ed', Mx w' o' L p n (upd D i (some ⟨u, v, wt⟩)) ed' (m + 1) (c + 1) ∧ Step (ML L) w o w' o' := by
  have X0 := X
  obtain ⟨⟨hM, hok⟩, R, bm, q, B, MM, T⟩ := X
  have hhu := has7 w o L p n bm q u B hu
  have hhv := has7 w o L p n bm q v B hv
  have h64 : In64 (i : Nat) := ⟨by omega, by omega⟩
  obtain ⟨a1, a2, a3, a4, sb, hlook⟩ := MM.miss (k := (i : Nat)) h64 (fun j e => (show i = j by omega) ▸ msF_new D ed ni)
  have n1 := newStep (fun _ => False) w o (L + 4000000000008) (.cells #[.int .i64 a1, .int .i64 a2, .int .i64 a3, .int .i64 a4, .bool sb] 73)
  have hset := settle_in _ _ L p n D ed m c i ⟨u, v, wt⟩ (X0.step n1 (fun _ _ => id)) hu hv huv hi hw ni (by omega) hc
  have hlen : (Builtin.len_ #[66] 3 #[.map (some bm)]).run Try.prog (w.alloc (.cells #[.int .i64 a1, .int .i64 a2, .int .i64 a3, .int .i64 a4, .bool sb] 73)) = .ok (.int .i64 (m : Nat)) (w.alloc (.cells #[.int .i64 a1, .int .i64 a2, .int .i64 a3, .int .i64 a4, .bool sb] 73)) := by
    obtain ⟨DD, k1, k2, _⟩ := MM.step n1 id
    rw [← k2]
    exact k1.len Try.underlying66 _
  obtain ⟨⟨p0, p1, p2⟩, pf⟩ := B.cell3
  have d1 : decide ((i : Int) < 0) = false := decide_eq_false (by omega)
  have d2 : decide (1099511627776 < (i : Int)) = false := decide_eq_false (by omega)
  have d3 : decide (wt < -1099511627776) = false := decide_eq_false (by omega)
  have d4 : decide (1099511627776 < wt) = false := decide_eq_false (by omega)
  have d5 : ((u : Int) == (v : Int)) = false := by simp only [beq_eq_false_iff_ne, ne_eq]; omega
  have d6 : decide (192 ≤ (m : Int)) = false := decide_eq_false (by omega)
  obtain ⟨⟨q0, q1, q2⟩, qf⟩ := (B.step n1 id).cell3
  clear MM T B X0
  go_enter Try.func16, Try.ntmps16
  go_wp2_with fail
  refine hhu.mono ?_
  rintro e w1 ⟨rfl, hw1⟩
  obtain rfl := hw1
  go_wp2_with fail
  refine hhv.mono ?_
  rintro e w2 ⟨rfl, hw2⟩
  obtain rfl := hw2
  go_wp2_with fail
  refine hset.mono ?_
  rintro e w3 ⟨rfl, o3, ed3, X3, s3⟩
  have RR : ∃ o' ed', Mx w3 o' L p n (upd D i (some ⟨u, v, wt⟩)) ed' (m + 1) (c + 1) ∧ Step (ML L) w2 o w3 o' := ⟨o3, ed3, X3, (n1.mono fun _ h => h.elim).trans s3⟩
  clear hset X3 s3 hlook hlen hhu hhv n1
  go_wp2
  go_ret
  exact ⟨rfl, RR⟩

set_option maxRecDepth 100000 in
set_option maxHeartbeats 4000000 in
theorem insert_loop (w : World) (o : Nat → Nat) (L p n : Nat) (D ed : Nat → Option Ed) (m c i u : Nat) (wt : Int) (X : Mx w o L p n D ed m c) (hu : u < n) (hi : i ≤ 1099511627776) (hw : -1099511627776 ≤ wt ∧ wt ≤ 1099511627776) (ni : D i = none) :
    Calls Try.prog 16 #[.pointer (some ⟨p, 0, none⟩), .int .i64 (i : Nat), .int .i64 (u : Nat), .int .i64 (u : Nat), .int .i64 wt] w fun e w' => e = .returned (.int .i64 72) ∧ Mx w' o L p n D ed m c ∧ Step (fun _ => False) w o w' o := by
  have X0 := X
  obtain ⟨⟨hM, hok⟩, R, bm, q, B, MM, T⟩ := X
  have hhu := has7 w o L p n bm q u B hu
  have h64 : In64 (i : Nat) := ⟨by omega, by omega⟩
  obtain ⟨a1, a2, a3, a4, sb, hlook⟩ := MM.miss (k := (i : Nat)) h64 (fun j e => (show i = j by omega) ▸ msF_new D ed ni)
  have n1 := newB5 w o (.cells #[.int .i64 a1, .int .i64 a2, .int .i64 a3, .int .i64 a4, .bool sb] 73)
  obtain ⟨⟨p0, p1, p2⟩, pf⟩ := B.cell3
  have d1 : decide ((i : Int) < 0) = false := decide_eq_false (by omega)
  have d2 : decide (1099511627776 < (i : Int)) = false := decide_eq_false (by omega)
  have d3 : decide (wt < -1099511627776) = false := decide_eq_false (by omega)
  have d4 : decide (1099511627776 < wt) = false := decide_eq_false (by omega)
  have RR := X0.step n1 (fun _ _ => id)
  clear MM T B X0
  go_enter Try.func16, Try.ntmps16
  go_wp2_with fail
  refine hhu.mono ?_
  rintro e w1 ⟨rfl, hw1⟩
  obtain rfl := hw1
  go_wp2_with fail
  refine hhu.mono ?_
  rintro e w2 ⟨rfl, hw2⟩
  obtain rfl := hw2
  go_wp2
  go_ret
  exact ⟨rfl, RR, n1⟩
set_option maxRecDepth 100000 in
set_option maxHeartbeats 4000000 in
theorem insert_twice (w : World) (o : Nat → Nat) (L p n : Nat) (D ed : Nat → Option Ed) (m c i u v : Nat) (wt : Int) (x : Ed) (X : Mx w o L p n D ed m c) (hu : u < n) (hv : v < n) (hi : i ≤ 1099511627776) (hw : -1099511627776 ≤ wt ∧ wt ≤ 1099511627776) (ni : D i = some x) :
    Calls Try.prog 16 #[.pointer (some ⟨p, 0, none⟩), .int .i64 (i : Nat), .int .i64 (u : Nat), .int .i64 (v : Nat), .int .i64 wt] w fun e w' => e = .returned (.int .i64 71) ∧ Mx w' o L p n D ed m c ∧ Step (fun _ => False) w o w' o := by
  have X0 := X
  obtain ⟨⟨hM, hok⟩, R, bm, q, B, MM, T⟩ := X
  have hhu := has7 w o L p n bm q u B hu
  have hhv := has7 w o L p n bm q v B hv
  have h64 : In64 (i : Nat) := ⟨by omega, by omega⟩
  have hlook := MM.look h64 (show msF D ed i = some (x, (ed i).isSome) by unfold msF; rw [ni]; rfl)
  have n1 := newB5 w o (.cells #[.int .i64 (i : Nat), .int .i64 (x.u : Nat), .int .i64 (x.v : Nat), .int .i64 x.w, .bool (ed i).isSome] 73)
  obtain ⟨⟨p0, p1, p2⟩, pf⟩ := B.cell3
  have d1 : decide ((i : Int) < 0) = false := decide_eq_false (by omega)
  have d2 : decide (1099511627776 < (i : Int)) = false := decide_eq_false (by omega)
  have d3 : decide (wt < -1099511627776) = false := decide_eq_false (by omega)
  have d4 : decide (1099511627776 < wt) = false := decide_eq_false (by omega)
  have RR := X0.step n1 (fun _ _ => id)
  clear MM T B X0
  go_enter Try.func16, Try.ntmps16
  go_wp2_with fail
  refine hhu.mono ?_
  rintro e w1 ⟨rfl, hw1⟩
  obtain rfl := hw1
  go_wp2_with fail
  refine hhv.mono ?_
  rintro e w2 ⟨rfl, hw2⟩
  obtain rfl := hw2
  go_wp2
  go_ret
  exact ⟨rfl, RR, n1⟩
/-- In. -/
theorem in_ok (w : World) (o : Nat → Nat) (L p n : Nat) (D ed : Nat → Option Ed) (m c i : Nat) (x : Ed) (X : Mx w o L p n D ed m c) (hx : D i = some x) :
    Calls Try.prog 27 #[.pointer (some ⟨p, 0, none⟩), .int .i64 (i : Nat)] w fun e w' => e = .returned (.tuple #[.bool (ed i).isSome, .int .i64 0]) ∧ Mx w' o L p n D ed m c ∧ Step (fun _ => False) w o w' o := by
  have X0 := X
  obtain ⟨⟨hM, hok⟩, R, bm, q, B, MM, T⟩ := X
  have hi := (hok i x hx).1
  have h64 : In64 (i : Nat) := ⟨by omega, by omega⟩
  have hlook := MM.look h64 (show msF D ed i = some (x, (ed i).isSome) by unfold msF; rw [hx]; rfl)
  have n1 := newB5 w o (.cells #[.int .i64 (i : Nat), .int .i64 (x.u : Nat), .int .i64 (x.v : Nat), .int .i64 x.w, .bool (ed i).isSome] 73)
  obtain ⟨⟨p0, p1, p2⟩, pf⟩ := B.cell3
  have RR := X0.step n1 (fun _ _ => id)
  generalize (ed i).isSome = sp at *
  clear MM T B X0
  go_enter Try.func27, Try.ntmps27
  go_wp2
  go_ret2
  exact ⟨rfl, RR, n1⟩

end Go.Proofs.Ytffmlffhiimmdaa
