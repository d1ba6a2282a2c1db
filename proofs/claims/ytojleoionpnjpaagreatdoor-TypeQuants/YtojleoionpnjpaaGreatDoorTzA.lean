/- Check of package typing. -/
import Derived.Test.YtojleoionpnjpaaGreatDoorSzJ
import Derived.Deep.CutBlock
import Derived.Deep.DeepCutAuto
import Derived.BigQuiet
namespace Go.Proofs.YtojleoionpnjpaaGreatDoor
open Go.ChangeShapes Go.WideShapes Go.ChangeAt Go.RowKit
set_option linter.unusedVariables false
set_option linter.unusedSimpArgs false

def kdR : Sum (Nat × Int) Int → Int
  | .inl _ => 0
  | .inr k => k
def erR : Sum (Nat × Int) Int → Nat
  | .inl (e, _) => e
  | .inr _ => 0
def plR : Sum (Nat × Int) Int → Int
  | .inl (_, a) => a
  | .inr _ => 0
abbrev tupR (r : Sum (Nat × Int) Int) : Value := .tuple #[.int .i64 (kdR r), .int .i64 (erR r : Nat), .int .i64 (plR r)]
/-- What check answers. -/
def PostC (w : World) (r : Sum (Nat × Int) Int) (x : Ending) (w' : World) : Prop := x = .returned (tupR r) ∧ Below w.heap.size w w'
def CheckOk (N : Nat) : Prop := ∀ (e : Ex) (ao : Option Addr) (cap g : Nat) (bv : Value) (b : List (List UInt8)) (w : World), e.kids.size < N → e.okA → e.kids.len ≤ 1000000000 → e.kids.short → b.length + e.kids.size ≤ 3000 → RuT w g → Nms w bv b → SlT w e.kids ao →
  Calls Tryz.prog 23 #[.agg #[.slice (some ⟨g, 0, none⟩) 26 26], exV e ao cap, bv] w (PostC w (chkE e b))
/-- Kinds in a slice of one's own. -/
abbrev inL (d : List Int) : List Value := d.map fun x => .int .i64 x
theorem Kns.ofRow {w : World} {o : Nat → Nat} {v : Value} {n : Nat} {d : List Int} (h : Row w o 2 3 1 v n (inL d)) (hn : d.length = n) : Kns w v d := by
  subst hn
  by_cases h0 : 0 < d.length
  · obtain ⟨g, cap, rfl, _, h2, _, h4, h5, _⟩ := h.pos h0
    refine ⟨_, cap, rfl, fun j k hj => ⟨g, 0, rfl, h4, ?_⟩⟩
    have hj2 : j < d.length := (List.getElem?_eq_some_iff.1 hj).1
    rw [Nat.zero_add, h5 j (by omega), List.getElem?_map, hj]
    rfl
  · obtain ⟨ao, cap, rfl⟩ := h.form
    refine ⟨ao, cap, rfl, fun j k hj => ?_⟩
    have hj2 : j < d.length := (List.getElem?_eq_some_iff.1 hj).1
    omega
theorem Fs.app_okA : ∀ {x y : Fs}, (x.app y).okA → y.okA
  | ⟨none⟩, y, h => h
  | ⟨some ⟨k, n, nm, a, ks, r⟩⟩, y, h => Fs.app_okA h.2.2
theorem box1 {w : World} {b : Nat} {a0 : Value} {t : TypeId} (h : w.heap[b]? = some (.cells #[a0] t (0, 0))) : w.cell? ⟨b, 0, none⟩ = some a0 := by
  simp [cell_of_row w b _ _ t (0, 0) h]
theorem infoIntT : (Tryz.prog.info? 3).map (fun i => (i.zero, i.size, i.bytes)) = some (some (.int .i64 0), 1, 8) := by kernel_rfl
set_option maxRecDepth 100000 in
set_option maxHeartbeats 4000000 in
theorem check_step {N : Nat} (IH : CheckOk N) : CheckOk (N + 1) := by
  intro e ao cap g bv b w hN hok hlen hsh hbl R Nm S
  obtain ⟨k0, n, nm, a, f⟩ := e
  have hr0 : okR k0 n f.len := okR_of hok.1
  have hkr := okR_kind hr0
  obtain ⟨k, rfl⟩ : ∃ k : Nat, k0 = (k : Int) := ⟨k0.toNat, by omega⟩
  have hfok : Hid f.okA := hok.2
  have HO : Hid (okR k n f.len) := hr0
  have hk1 : 1 ≤ k ∧ k ≤ 25 ∧ k ≠ 5 := by omega
  clear hok hr0 hkr
  simp only at hN hlen hsh hbl S
  obtain ⟨ii, hii, hzi0, hzi1, hzi2⟩ := info_parts infoIntT
  obtain ⟨W, hW⟩ : ∃ W, W = chkE ⟨k, n, nm, a, f⟩ b := ⟨_, rfl⟩
  rw [← hW]
  have HW : Hid (W = chkE ⟨k, n, nm, a, f⟩ b) := hW
  clear hW
  obtain ⟨w0, hw0⟩ : ∃ w0, w0 = (w.alloc (.cells #[.slice (some ⟨g, 0, none⟩) 26 26] 53)).alloc (.cells #[.int .i64 (k : Nat), .int .i64 n, stv nm, .slice ao f.len cap, .int .i64 a] 25) := ⟨_, rfl⟩
  have B0 : Below w.heap.size w w0 := by rw [hw0]; exact ((Below.refl _ w).alloc (Nat.le_refl _) _).alloc (by simp) _
  obtain ⟨o0, ho0⟩ : ∃ o0 : Nat → Nat, o0 = fun _ => 0 := ⟨_, rfl⟩
  have C0 : Blk w0 o0 0 w.heap.size (.cells #[.slice (some ⟨g, 0, none⟩) 26 26] 53) := by
    refine ⟨?_, by rw [ho0]⟩
    rw [hw0]
    exact (Below.heap_alloc _ _ _ (by simp)).trans (heap_alloc_new w _)
  have E0 : Blk w0 o0 0 (w.heap.size + 1) (.cells #[.int .i64 (k : Nat), .int .i64 n, stv nm, .slice ao f.len cap, .int .i64 a] 25) := by
    refine ⟨?_, by rw [ho0]⟩
    rw [hw0]
    have := heap_alloc_new (w.alloc (.cells #[.slice (some ⟨g, 0, none⟩) 26 26] 53)) (.cells #[.int .i64 (k : Nat), .int .i64 n, stv nm, .slice ao f.len cap, .int .i64 a] 25)
    simpa using this
  have L0 : Hid (∀ k, k < w.heap.size → o0 k = 0) := fun k hk => by rw [ho0]
  have M0 : Hid (∀ k, k < w0.heap.size → o0 k = 0) := fun k hk => by rw [ho0]
  rw [exV_out]
  go_enter Tryz.func23, Tryz.ntmps23
  go_upto_region 1 with fail
  rw [← hw0]
  clear hw0 ho0
  obtain ⟨n0, hn0⟩ : ∃ n0, n0 = w.heap.size := ⟨_, rfl⟩
  unfold PostC
  have HR : Hid (RuT w g) := R
  have HM : Hid (Nms w bv b) := Nm
  have HS : Hid (SlT w f ao) := S
  clear R Nm S
  rw [← hn0] at E0 C0 L0 B0 ⊢
  have HB : Hid (n0 = w.heap.size) := hn0
  clear hn0
  obtain ⟨p0, p1, p2, p3, p4, pf⟩ := box5 E0.1
  have pc := box1 C0.1
  have NM0 := HM.out.below (w' := w0) (by rw [← HB.out]; exact B0)
  have cc := containsS NM0 nm (by omega)
  by_cases hv : (k : Int) = 4 ∧ ¬ nm ∈ b
  · have h4b : ((k : Int) == 4) = true := by simp [hv.1]
    have hin : decide (nm ∈ b) = false := decide_eq_false hv.2
    have FIN : Hid (W = .inl (130, a)) := by
      show W = _
      rw [HW.out]
      unfold chkE
      rw [if_pos hv]
    rw [hin] at cc
    clear HW hlen hsh hv
    go_wp2_with fail
    refine cc.mono ?_
    rintro x w1 ⟨rfl, rfl⟩
    go_wp2_with fail
    go_quiet (fail)
    go_wp2
    refine bodyPost_ret (v := tupR (.inl (130, a))) (by simp [results, Tryz.results23, go_sem, kdR, erR, plR]) rfl ⟨by rw [FIN.out], ?_⟩
    rw [← HB.out]
    exact B0.trans ⟨rfl, rfl, rfl, Nat.le_refl _, fun _ _ => rfl⟩
  · have HV : Hid (W = endT k n f.len (chkFs f k n nm f.len b 0 [])) := by
      show W = _
      rw [HW.out]
      unfold chkE
      rw [if_neg hv]
      simp only
      cases chkFs f k n nm f.len b 0 [] <;> rfl
    clear HW
    go_cut [26] (fun v wx => v = .bool false ∧ wx = w0)
    case first =>
      by_cases h4 : (k : Int) = 4
      · have h4b : ((k : Int) == 4) = true := by simp [h4]
        have hin : decide (nm ∈ b) = true := by
          apply decide_eq_true
          by_cases h5 : nm ∈ b
          · exact h5
          · exact absurd ⟨h4, h5⟩ hv
        rw [hin] at cc
        clear h4 hv hk1 HV
        go_wp2_with fail
        refine cc.mono ?_
        rintro x w1 ⟨rfl, rfl⟩
        go_wp2
        go_meet
        exact ⟨rfl, rfl⟩
      · have h4b : ((k : Int) == 4) = false := by simpa using h4
        clear h4 hv hk1 HV
        go_wp2
        go_meet
        exact ⟨rfl, rfl⟩
    case rest =>
      obtain ⟨rfl, hwc⟩ := hcut
      have hwc' := hwc.symm
      clear hwc
      subst hwc'
      clear hv cc NM0
      have R0 := HR.out.below (w' := w0) (by rw [← HB.out]; exact B0)
      obtain ⟨v, cv, RV⟩ := R0.2 k hk1.1 hk1.2.1 hk1.2.2
      obtain ⟨F, c, rfl, HE, RC⟩ := rul_ok RV
      have hkI : (k : Int) < 26 := by omega
      have HRC : Hid (∀ (w' : World), Below w0.heap.size w0 w' → ∀ (n a : Int) (nm : List UInt8) (ka : Option Addr) (len kc : Nat) (dv : Value) (d : List Int), Kns w' dv d → okR k n len → d.length ≤ len → RulA w' k n a nm ka len kc dv d F c) := RC
      clear RC RV R0
      go_wp2
      go_loopw [10, 38] (fun va vi wr => ∃ (d r : Fs) (o : Nat → Nat) (ds : List Int), Hid (f = d.app r) ∧ vi = .int .i64 (d.len : Nat) ∧ ds.length = d.len ∧ Row wr o 2 3 1 va d.len (inL ds) ∧ Hid (W = endT k n f.len (chkFs r k n nm f.len b d.len ds)) ∧ Blk wr o 0 n0 (.cells #[.slice (some ⟨g, 0, none⟩) 26 26] 53) ∧ Blk wr o 0 (n0 + 1) (.cells #[.int .i64 (k : Nat), .int .i64 n, stv nm, .slice ao f.len cap, .int .i64 a] 25) ∧ Hid (∀ k, k < n0 → o k = 0) ∧ Hid (∀ k, k < w0.heap.size → o k = 0) ∧ Below n0 w wr ∧ Below w0.heap.size w0 wr) (fun _ vi _ => f.len - (intOf vi).toNat)
      case atStart => exact ⟨.nil, f, o0, [], rfl, by show _ = Value.int .i64 ((0 : Nat) : Int); rfl, rfl, Row.nil _ _ _ _ _, HV, C0, E0, L0, M0, B0, Below.refl _ _⟩
      case round =>
        clear C0 E0 L0 M0 B0 p0 p1 p2 p3 p4 pf pc HV
        obtain ⟨d, r, o, ds, hf, rfl, hds, RW, HV, C1, E1, L1, M1, B1, B2⟩ := hrel
        have hlk : f.len = d.len + r.len := by rw [hf.out, Fs.len_app]
        obtain ⟨p0, p1, p2, p3, p4, pf⟩ := box5 E1.1
        have pc := box1 C1.1
        cases r using Fs.on with
        | nil =>
          have hl0 : ¬ (d.len : Int) < (f.len : Int) := by simp only [Fs.len] at hlk; omega
          have c1 := HRC.out wr B2 n a nm ao f.len cap _ ds (Kns.ofRow RW hds) HO.out (by omega)
          obtain ⟨va1, va2, rfl⟩ := RW.form
          unfold RulA at c1
          have FIN : Hid (W = .inr (ruleT k n f.len ds)) := HV
          clear HV hlk HRC RW
          go_wp2_with fail
          refine c1.mono ?_
          rintro x w6 ⟨rfl, b6⟩
          have HZ : Hid (Below n0 w w6) := B1.trans (b6.mono (by have := E1.lt; omega))
          clear c1 b6 HE
          generalize ruleT k n f.len ds = kd at *
          go_wp2
          refine bodyPost_ret (v := tupR (.inr kd)) (by simp [results, Tryz.results23, go_sem, kdR, erR, plR]) rfl ⟨by rw [FIN.out], ?_⟩
          rw [← HB.out]
          exact HZ.out
        | cons kk kn km ka kks kr =>
          have hl0 : (d.len : Int) < (f.len : Int) := by simp only [Fs.len] at hlk; omega
          have hl1 : d.len < f.len := by omega
          have hsz : f.size = d.size + (kks.size + kr.size + 1) := by rw [hf.out, Fs.size_app]; rfl
          have hsk : (Fs.cons kk kn km ka kks kr).short := Fs.app_short (by rw [← hf.out]; exact hsh)
          have hoa : (Fs.cons kk kn km ka kks kr).okA := Fs.app_okA (by rw [← hf.out]; exact hfok.out)
          have hn0 : n0 ≤ wr.heap.size := by have := E1.lt; omega
          obtain ⟨bk, off, ak, ck, hao, lb1, -, x0, x1, x2, x3, x4, SK⟩ := Sl.kidQ (by rw [← hf.out]; exact SlT.below HS.out (by rw [← HB.out]; exact B1))
          subst hao
          obtain ⟨mu, hmu⟩ : ∃ mu, mu = ruleT k n f.len ds := ⟨_, rfl⟩
          obtain ⟨b', hb'⟩ : ∃ b', b' = bndI k nm d.len b := ⟨_, rfl⟩
          obtain ⟨W2, hW2⟩ : ∃ W2, W2 = chkE ⟨kk, kn, km, ka, kks⟩ b' := ⟨_, rfl⟩
          have HV2 : Hid (W = endT k n f.len (match mustT mu ka W2 with
            | .inl e => .inl e
            | .inr is => chkFs kr k n nm f.len b (d.len + 1) (ds ++ [is]))) := by
            show W = _
            rw [HV.out, hW2, hmu, hb']
            rfl
          have hbl' : b'.length ≤ b.length + 1 := by
            rw [hb']
            unfold bndI
            split <;> simp
          have HW2 : Hid (W2 = chkE ⟨kk, kn, km, ka, kks⟩ b') := hW2
          have hf2 : Hid (f = (d.snoc ⟨kk, kn, km, ka, kks⟩).app kr) := by show f = _; rw [hf.out]; unfold Fs.snoc; rw [Fs.app_assoc]; rfl
          have hl2 : (d.len : Int) + 1 = ((d.snoc ⟨kk, kn, km, ka, kks⟩).len : Nat) := by rw [Fs.len_snoc]; rfl
          -- the kid's box
          have B7 : Below wr.heap.size wr (wr.alloc (.cells #[.int .i64 kk, .int .i64 kn, stv km, .slice ak kks.len ck, .int .i64 ka] 25)) := (Below.refl _ wr).alloc (Nat.le_refl _) _
          have K7 : (wr.alloc (.cells #[.int .i64 kk, .int .i64 kn, stv km, .slice ak kks.len ck, .int .i64 ka] 25)).heap[wr.heap.size]? = some (.cells #[.int .i64 kk, .int .i64 kn, stv km, .slice ak kks.len ck, .int .i64 ka] 25) := heap_alloc_new wr _
          obtain ⟨va1, va2, rfl⟩ := RW.form
          clear HV hW2 hlk
          go_upto_region 8 with fail
          generalize wr.alloc (.cells #[.int .i64 kk, .int .i64 kn, stv km, .slice ak kks.len ck, .int .i64 ka] 25) = w7 at *
          obtain ⟨kb, hkb⟩ : ∃ kb, kb = wr.heap.size := ⟨_, rfl⟩
          rw [← hkb] at K7 ⊢
          have HKB : Hid (kb = wr.heap.size) := hkb
          clear hkb
          obtain ⟨q0, q1, q2, q3, q4, qf⟩ := box5 K7
          have hE7 := (B7.block _ E1.lt).trans E1.1
          have hC7 := (B7.block _ C1.lt).trans C1.1
          obtain ⟨p0', p1', p2', p3', p4', pf'⟩ := box5 hE7
          have c1 := HRC.out w7 (B2.trans (B7.mono B2.size)) n a nm (some ⟨bk, off, none⟩) f.len cap _ ds ((Kns.ofRow RW hds).below B7) HO.out (by omega)
          unfold RulA at c1
          rw [← hmu] at c1
          clear p0 p1 p2 p3 p4 pf pc x0 x1 x2 x3 x4 hmu
          go_wp2_with fail
          refine c1.mono ?_
          rintro x w8 ⟨rfl, b8⟩
          have B8 : Below wr.heap.size wr w8 := B7.trans (b8.mono B7.size)
          have K8 := (b8.block _ (lt_of_block K7)).trans K7
          have hE8 := (B8.block _ E1.lt).trans E1.1
          have hC8 := (B8.block _ C1.lt).trans C1.1
          clear c1 b8 p0' p1' p2' p3' p4' pf' q0 q1 q2 q3 q4 qf hE7 hC7 B7 K7
          go_upto_region 9 with fail
          obtain ⟨p0, p1, p2, p3, p4, pf⟩ := box5 hE8
          obtain ⟨q0, q1, q2, q3, q4, qf⟩ := box5 K8
          have pc := box1 hC8
          have BW8 : Below n0 w w8 := B1.trans (B8.mono hn0)
          have NM8 := HM.out.below (w' := w8) (by rw [← HB.out]; exact BW8)
          have hcb := boundIn_c ⟨k, n, nm, a, f⟩ (some ⟨bk, off, none⟩) cap d.len bv b w8.drew (NM8.below (below_drewT w8)) (by omega)
          rw [exV_out] at hcb
          simp only at hcb
          rw [← hb'] at hcb
          go_cut [14, 15, 16] (fun v1 v2 v3 wx => v1 = .int .i64 (kdR W2) ∧ v2 = .int .i64 (erR W2 : Nat) ∧ v3 = .int .i64 (plR W2) ∧ Below w8.heap.size w8 wx)
          case first =>
            have hc8 := lt_of_block hC8
            have he8 := lt_of_block hE8
            have hk8 := lt_of_block K8
            go_wp2_with fail
            go_region_held3 (fun wx => wx.cell? ⟨n0, 0, none⟩ = some (.slice (some ⟨g, 0, none⟩) 26 26) ∧ wx.cell? ⟨n0 + 1, 0, none⟩ = some (.int .i64 (k : Nat)) ∧ wx.cell? ⟨n0 + 1, 1, none⟩ = some (.int .i64 n) ∧ wx.cell? ⟨n0 + 1, 2, none⟩ = some (stv nm) ∧ wx.cell? ⟨n0 + 1, 3, none⟩ = some (.slice (some ⟨bk, off, none⟩) f.len cap) ∧ wx.cell? ⟨n0 + 1, 4, none⟩ = some (.int .i64 a) ∧ wx.cell? ⟨kb, 0, none⟩ = some (.int .i64 kk) ∧ wx.cell? ⟨kb, 1, none⟩ = some (.int .i64 kn) ∧ wx.cell? ⟨kb, 2, none⟩ = some (stv km) ∧ wx.cell? ⟨kb, 3, none⟩ = some (.slice ak kks.len ck) ∧ wx.cell? ⟨kb, 4, none⟩ = some (.int .i64 ka))
              (first | exact KB | exact KA | go_keep)
              (first
                | (go_at_call 47; refine hcb.mono ?_; rintro x w9 ⟨nv, rfl, N9, b9⟩; have KA : (w9.cell? ⟨n0, 0, none⟩ = some (.slice (some ⟨g, 0, none⟩) 26 26) ∧ w9.cell? ⟨n0 + 1, 0, none⟩ = some (.int .i64 (k : Nat)) ∧ w9.cell? ⟨n0 + 1, 1, none⟩ = some (.int .i64 n) ∧ w9.cell? ⟨n0 + 1, 2, none⟩ = some (stv nm) ∧ w9.cell? ⟨n0 + 1, 3, none⟩ = some (.slice (some ⟨bk, off, none⟩) f.len cap) ∧ w9.cell? ⟨n0 + 1, 4, none⟩ = some (.int .i64 a) ∧ w9.cell? ⟨kb, 0, none⟩ = some (.int .i64 kk) ∧ w9.cell? ⟨kb, 1, none⟩ = some (.int .i64 kn) ∧ w9.cell? ⟨kb, 2, none⟩ = some (stv km) ∧ w9.cell? ⟨kb, 3, none⟩ = some (.slice ak kks.len ck) ∧ w9.cell? ⟨kb, 4, none⟩ = some (.int .i64 ka)) := ⟨(b9.cell (p := ⟨n0, 0, none⟩) hc8).trans pc, (b9.cell (p := ⟨n0 + 1, 0, none⟩) he8).trans p0, (b9.cell (p := ⟨n0 + 1, 1, none⟩) he8).trans p1, (b9.cell (p := ⟨n0 + 1, 2, none⟩) he8).trans p2, (b9.cell (p := ⟨n0 + 1, 3, none⟩) he8).trans p3, (b9.cell (p := ⟨n0 + 1, 4, none⟩) he8).trans p4, (b9.cell (p := ⟨kb, 0, none⟩) hk8).trans q0, (b9.cell (p := ⟨kb, 1, none⟩) hk8).trans q1, (b9.cell (p := ⟨kb, 2, none⟩) hk8).trans q2, (b9.cell (p := ⟨kb, 3, none⟩) hk8).trans q3, (b9.cell (p := ⟨kb, 4, none⟩) hk8).trans q4⟩)
                | (go_at_call 23; have Bx : Below w8.heap.size w8 w9 := (below_drewT w8).trans b9; have hck := IH ⟨kk, kn, km, ka, kks⟩ ak ck g nv b' w9 (by show kks.size < N; omega) ⟨hoa.1, hoa.2.1⟩ hsk.2.1 hsk.2.2.1 (by show b'.length + kks.size ≤ 3000; omega) (HR.out.below (by rw [← HB.out]; exact BW8.trans (Bx.mono (by have := BW8.size; rw [← HB.out] at this; exact this)))) N9 (SlT.below SK (B8.trans (Bx.mono B8.size))); rw [exV_out, ← HW2.out] at hck; refine hck.mono ?_; rintro x wA ⟨rfl, bA⟩; have By : Below w8.heap.size w8 wA := Bx.trans (bA.mono Bx.size); have KB : (wA.cell? ⟨n0, 0, none⟩ = some (.slice (some ⟨g, 0, none⟩) 26 26) ∧ wA.cell? ⟨n0 + 1, 0, none⟩ = some (.int .i64 (k : Nat)) ∧ wA.cell? ⟨n0 + 1, 1, none⟩ = some (.int .i64 n) ∧ wA.cell? ⟨n0 + 1, 2, none⟩ = some (stv nm) ∧ wA.cell? ⟨n0 + 1, 3, none⟩ = some (.slice (some ⟨bk, off, none⟩) f.len cap) ∧ wA.cell? ⟨n0 + 1, 4, none⟩ = some (.int .i64 a) ∧ wA.cell? ⟨kb, 0, none⟩ = some (.int .i64 kk) ∧ wA.cell? ⟨kb, 1, none⟩ = some (.int .i64 kn) ∧ wA.cell? ⟨kb, 2, none⟩ = some (stv km) ∧ wA.cell? ⟨kb, 3, none⟩ = some (.slice ak kks.len ck) ∧ wA.cell? ⟨kb, 4, none⟩ = some (.int .i64 ka)) := ⟨(By.cell (p := ⟨n0, 0, none⟩) hc8).trans pc, (By.cell (p := ⟨n0 + 1, 0, none⟩) he8).trans p0, (By.cell (p := ⟨n0 + 1, 1, none⟩) he8).trans p1, (By.cell (p := ⟨n0 + 1, 2, none⟩) he8).trans p2, (By.cell (p := ⟨n0 + 1, 3, none⟩) he8).trans p3, (By.cell (p := ⟨n0 + 1, 4, none⟩) he8).trans p4, (By.cell (p := ⟨kb, 0, none⟩) hk8).trans q0, (By.cell (p := ⟨kb, 1, none⟩) hk8).trans q1, (By.cell (p := ⟨kb, 2, none⟩) hk8).trans q2, (By.cell (p := ⟨kb, 3, none⟩) hk8).trans q3, (By.cell (p := ⟨kb, 4, none⟩) hk8).trans q4⟩))
            all_goals (
              have HZ : Hid (Below w8.heap.size w8 wA) := By
              clear KA KB By bA hck Bx N9 b9 hcb
              go_wp2
              go_meet
              exact ⟨rfl, rfl, rfl, HZ.out⟩)
          case rest =>
            obtain ⟨rfl, rfl, rfl, b9⟩ := hcut
            have K9 := (b9.block _ (lt_of_block K8)).trans K8
            have B9 : Below wr.heap.size wr wc := B8.trans (b9.mono B8.size)
            have s9 : Step (fun _ => False) wr o wc (newLab wr o 0) := ((Step.refl _ wr o).labelled 0).trans (Step.ofB (newLab wr o 0) B9)
            have E9 := E1.step s9 id
            have C9 := C1.step s9 id
            have R9 := RW.step s9 id
            have hw0r : w0.heap.size ≤ wr.heap.size := B2.size
            have L9 : Hid (∀ k, k < n0 → newLab wr o 0 k = 0) := fun k hk => by rw [newLab_old (by omega)]; exact L1.out k hk
            have M9 : Hid (∀ k, k < w0.heap.size → newLab wr o 0 k = 0) := fun k hk => by rw [newLab_old (by omega)]; exact M1.out k hk
            have BN : Below n0 w wc := B1.trans (B9.mono hn0)
            have BM : Below w0.heap.size w0 wc := B2.trans (B9.mono hw0r)
            generalize newLab wr o 0 = o9 at *
            obtain ⟨q0', q1', q2', q3', q4', qf'⟩ := box5 K9
            clear E1 C1 RW L1 M1 B1 B2 B8 K8 hE8 hC8 p0 p1 p2 p3 p4 pf q0 q1 q2 q3 q4 qf pc BW8 NM8 hcb b9 B9 s9 SK hb' hfok IH HR HM HS hbl' hsk hoa hsz HKB hf
            cases W2 with
            | inl z =>
              obtain ⟨er, pa⟩ := z
              have her := chkE_er HW2.out.symm
              have hne : ((er : Int) != 0) = true := by simp; omega
              have FIN : Hid (W = .inl (er, pa)) := HV2
              simp only [kdR, erR, plR]
              clear HV2 HW2 her
              go_wp2
              refine bodyPost_ret (v := tupR (.inl (er, pa))) (by simp [results, Tryz.results23, go_sem, kdR, erR, plR]) rfl ⟨by rw [FIN.out], ?_⟩
              rw [← HB.out]
              exact BN
            | inr is =>
              simp only [kdR, erR, plR]
              by_cases hm : mu ≠ 0 ∧ is ≠ mu
              · have FIN : Hid (W = .inl (131, ka)) := by
                  show W = _
                  rw [HV2.out]
                  simp only [mustT]
                  rw [if_pos hm]
                  rfl
                have hm1 : (mu != 0) = true := by simpa using hm.1
                have hm2 : (is != mu) = true := by simpa using hm.2
                clear HV2 HW2 hm
                go_wp2_with fail
                go_quiet (fail)
                go_wp2
                refine bodyPost_ret (v := tupR (.inl (131, ka))) (by simp [results, Tryz.results23, go_sem, kdR, erR, plR]) rfl ⟨by rw [FIN.out], ?_⟩
                rw [← HB.out]
                exact BN.trans ⟨rfl, rfl, rfl, Nat.le_refl _, fun _ _ => rfl⟩
              · have HV3 : Hid (W = endT k n f.len (chkFs kr k n nm f.len b (d.snoc ⟨kk, kn, km, ka, kks⟩).len (ds ++ [is]))) := by
                  show W = _
                  rw [HV2.out]
                  simp only [mustT]
                  rw [if_neg hm, Fs.len_snoc]
                have HM2 : Hid (¬ (mu ≠ 0 ∧ is ≠ mu)) := hm
                clear HV2 HW2 hm
                go_upto_region 12 with fail
                go_cut [68] (fun v wx => v = .bool false ∧ wx = wc)
                case first =>
                  by_cases h0 : mu = 0
                  · have hm1 : (mu != 0) = false := by simpa using h0
                    clear h0
                    go_wp2
                    go_meet
                    exact ⟨rfl, rfl⟩
                  · have hm1 : (mu != 0) = true := by simpa using h0
                    have hm2 : (is != mu) = false := by
                      have := HM2.out
                      by_cases h1 : is = mu
                      · simpa using h1
                      · exact absurd ⟨h0, h1⟩ this
                    clear h0
                    go_wp2
                    go_meet
                    exact ⟨rfl, rfl⟩
                case rest =>
                  obtain ⟨rfl, hwd⟩ := hcut
                  have hwd' := hwd.symm
                  clear hwd
                  subst hwd'
                  clear q0' q1' q2' q3' q4' qf' K9 HM2
                  have s10 := boxStep (fun _ => False) wc o9 (.cells #[.int .i64 is] 3)
                  have R10 := R9.step s10 id
                  have E10 := E9.step s10 id
                  have C10 := C9.step s10 id
                  have hnc : n0 ≤ wc.heap.size := by have := E9.lt; omega
                  have h0c : w0.heap.size ≤ wc.heap.size := BM.size
                  have L10 : Hid (∀ k, k < n0 → newLab wc o9 0 k = 0) := fun k hk => by rw [newLab_old (by omega)]; exact L9.out k hk
                  have M10 : Hid (∀ k, k < w0.heap.size → newLab wc o9 0 k = 0) := fun k hk => by rw [newLab_old (by omega)]; exact M9.out k hk
                  have BN10 := below_stepB BN s10 (fun _ _ => id) (by rw [HB.out]; exact Nat.le_refl _)
                  have BM10 := below_stepB BM s10 (fun _ _ => id) (Nat.le_refl _)
                  have b1 : d.len + 1 ≤ maxLen := by unfold maxLen; omega
                  have b2 : (d.len + 1) * 8 ≤ 140737488355328 := by omega
                  have hone : ∀ u ∈ [Value.int .i64 is], u.oneCell' = true := by intro u hu; simp at hu; subst hu; rfl
                  clear E9 C9 R9 L9 M9 BN BM
                  go_wp2_with (first | (at_builtin; refine wpList_append_lab rfl (.tmp 71) (.tmp 73) 62 rfl 3 ii (.int .i64 0) 1 8 Tryz.underlying62 hii hzi0 hzi1 hzi2 rfl (by decide) (newLab wc o9 0) 2 _ d.len (inL ds) rfl R10 ⟨wc.heap.size, 0, none⟩ 1 1 [.int .i64 is] rfl rfl (new_one wc _ _) hone (by decide) b1 b2 ?_) | go_in)
                  intro g11 c11 w11 o11 r11 s11
                  have hn1 : n0 ≤ (wc.alloc (.cells #[.int .i64 is] 3)).heap.size := by have := E10.lt; omega
                  have h01 : w0.heap.size ≤ (wc.alloc (.cells #[.int .i64 is] 3)).heap.size := by simp; omega
                  have E11 := E10.step s11 (by decide)
                  have C11 := C10.step s11 (by decide)
                  have L11 : Hid (∀ k, k < n0 → o11 k = 0) := fun k hk => (s11.lab k (by omega)).trans (L10.out k hk)
                  have M11 : Hid (∀ k, k < w0.heap.size → o11 k = 0) := fun k hk => (s11.lab k (by omega)).trans (M10.out k hk)
                  have BN11 := below_stepB BN10 s11 (fun k hk => by rw [L10.out k hk]; decide) (by rw [HB.out]; exact Nat.le_refl _)
                  have BM11 := below_stepB BM10 s11 (fun k hk => by rw [M10.out k hk]; decide) (Nat.le_refl _)
                  have hlen2 : (ds ++ [is]).length = (d.snoc ⟨kk, kn, km, ka, kks⟩).len := by rw [Fs.len_snoc]; simp [hds]
                  have R11 : Row w11 o11 2 3 1 (.slice (some ⟨g11, 0, none⟩) (d.len + 1) c11) (d.snoc ⟨kk, kn, km, ka, kks⟩).len (inL (ds ++ [is])) := by
                    rw [Fs.len_snoc]
                    unfold inL
                    rw [List.map_append]
                    exact r11
                  clear s11 r11 s10 R10 E10 C10 L10 M10 BN10 BM10 hone
                  go_wp2
                  go_roundw
                  case rel => exact ⟨_, kr, o11, _, hf2, by rw [← hl2], hlen2, R11, HV3, C11, E11, L11, M11, BN11, BM11⟩
                  case measure => simp [intOf]; omega
theorem check_ok : ∀ N, CheckOk N
  | 0 => fun e ao cap g bv b w h => absurd h (Nat.not_lt_zero _)
  | N + 1 => check_step (check_ok N)
end Go.Proofs.YtojleoionpnjpaaGreatDoor
namespace Go.Proofs.YtojleoionpnjpaaGreatDoor
open Go.ChangeShapes Go.WideShapes Go.ChangeAt Go.RowKit
set_option linter.unusedVariables false
set_option linter.unusedSimpArgs false

abbrev tupT (t : Int × Nat × Int) : Value := .tuple #[.int .i64 t.1, .int .i64 (t.2.1 : Nat), .int .i64 t.2.2]
theorem writA_ok {e : Ex} (hf : e.fit) {t : List UInt8} (h : writA e = some t) : e.okA ∧ e.kids.size ≤ 2000 ∧ isSetK e.k = false := by
  unfold writA at h
  by_cases hs : isSetK e.k = true
  · rw [if_pos hs] at h; cases h
  · rw [if_neg hs] at h
    cases hh : hE e 0 with
    | none => rw [hh] at h; cases h
    | some c =>
      obtain ⟨h1, h2, h3⟩ := hE_ok hf hh
      exact ⟨h1, by omega, by simpa using hs⟩
set_option maxRecDepth 100000 in
set_option maxHeartbeats 1000000 in
theorem tcheck_r (e : Ex) (ao : Option Addr) (cap : Nat) (w : World) (hf : e.fit) (FX : FixT w) (S : SlT w e.kids ao) :
    Calls Tryz.prog 12 #[exV e ao cap] w fun x w' => x = .returned (tupT (typA e)) ∧ Below w.heap.size w w' := by
  obtain ⟨T, hT⟩ : ∃ T, T = typA e := ⟨_, rfl⟩
  rw [← hT]
  have HT : Hid (T = typA e) := hT
  clear hT
  have B0 : Below w.heap.size w (w.alloc (.cells #[.int .i64 e.k, .int .i64 e.n, stv e.nm, .slice ao e.kids.len cap, .int .i64 e.a] 25)) := (Below.refl _ w).alloc (Nat.le_refl _) _
  have E0 : (w.alloc (.cells #[.int .i64 e.k, .int .i64 e.n, stv e.nm, .slice ao e.kids.len cap, .int .i64 e.a] 25)).heap[w.heap.size]? = some (.cells #[.int .i64 e.k, .int .i64 e.n, stv e.nm, .slice ao e.kids.len cap, .int .i64 e.a] 25) := heap_alloc_new w _
  have S0 := SlT.below S B0
  have FX0 := FX.below B0
  rw [exV_out]
  go_enter Tryz.func12, Tryz.ntmps12
  go_upto_region 1 with fail
  generalize w.alloc (.cells #[.int .i64 e.k, .int .i64 e.n, stv e.nm, .slice ao e.kids.len cap, .int .i64 e.a] 25) = w0 at *
  obtain ⟨bx, hbx⟩ : ∃ bx, bx = w.heap.size := ⟨_, rfl⟩
  rw [← hbx] at E0 B0 ⊢
  have HB : Hid (bx = w.heap.size) := hbx
  clear hbx
  obtain ⟨p0, p1, p2, p3, p4, pf⟩ := box5 E0
  have hbx0 := lt_of_block E0
  have c1 := right_r e ao cap w0 hf FX0 S0
  rw [exV_out] at c1
  go_wp2_with fail
  refine c1.mono ?_
  rintro x w1 ⟨rfl, b1⟩
  have E1 := (b1.block _ hbx0).trans E0
  have B1 : Below bx w w1 := B0.trans (b1.mono (Nat.le_of_lt hbx0))
  have S1 := SlT.below S0 b1
  clear c1 b1 p0 p1 p2 p3 p4 pf E0 B0 S0 FX0 FX S
  cases hw : writA e with
  | none =>
    have FIN : Hid (T = (0, 122, 0)) := by show T = _; rw [HT.out]; unfold typA; rw [hw]
    simp only [Option.isSome_none]
    clear HT hw
    go_wp2
    refine bodyPost_ret (v := tupT (0, 122, 0)) (by simp [results, Tryz.results12, go_sem]) rfl ⟨by rw [FIN.out], ?_⟩
    rw [← HB.out]
    exact B1
  | some t =>
    obtain ⟨hok, hsz, -⟩ := writA_ok hf hw
    simp only [Option.isSome_some]
    have HT2 : Hid (tupT T = tupR (chkE e [])) := by
      show tupT T = _
      rw [HT.out]
      unfold typA
      rw [hw]
      simp only
      cases chkE e [] with
      | inl z => obtain ⟨er, a⟩ := z; rfl
      | inr k => rfl
    clear HT hw
    go_wp2_with fail
    refine (rules_c w1).mono ?_
    rintro x w2 ⟨g, rfl, R2, b2⟩
    have E2 := (b2.block _ (lt_of_block E1)).trans E1
    have B2 : Below bx w w2 := B1.trans (b2.mono (Nat.le_of_lt (lt_of_block E1)))
    have S2 := SlT.below S1 b2
    clear b2 E1 B1 S1
    have b3 : Below w2.heap.size w2 (w2.alloc (.cells #[.slice (some ⟨g, 0, none⟩) 26 26] 53)) := (Below.refl _ w2).alloc (Nat.le_refl _) _
    have C3 : (w2.alloc (.cells #[.slice (some ⟨g, 0, none⟩) 26 26] 53)).heap[w2.heap.size]? = some (.cells #[.slice (some ⟨g, 0, none⟩) 26 26] 53) := heap_alloc_new w2 _
    have E3 := (b3.block _ (lt_of_block E2)).trans E2
    have B3 := B2.trans (b3.mono (Nat.le_of_lt (lt_of_block E2)))
    have S3 := SlT.below S2 b3
    have R3 := R2.below b3
    go_upto_region 4 with fail
    generalize w2.alloc (.cells #[.slice (some ⟨g, 0, none⟩) 26 26] 53) = w3 at *
    generalize w2.heap.size = cb at *
    obtain ⟨p0, p1, p2, p3, p4, pf⟩ := box5 E3
    have pc := box1 C3
    have c4 := check_ok (e.kids.size + 1) e ao cap g (.slice none 0 0) [] w3 (by omega) hok hf.len hf.sh (by simp; omega) R3 (Nms.nil w3) S3
    rw [exV_out] at c4
    clear b3 E2 B2 S2 R2 R3 S3
    go_wp2_with fail
    refine c4.mono ?_
    rintro x w4 ⟨rfl, b4⟩
    have HZ : Hid (Below bx w w4) := B3.trans (b4.mono (Nat.le_of_lt (lt_of_block E3)))
    clear c4 b4
    generalize chkE e [] = z at *
    go_wp2
    refine bodyPost_ret (v := tupR z) (by simp [results, Tryz.results12, go_sem]) rfl ⟨by rw [HT2.out], ?_⟩
    rw [← HB.out]
    exact HZ.out
end Go.Proofs.YtojleoionpnjpaaGreatDoor
