/- The library's strconv.Atoi at this program: the kit's contracts, laid in plain words by the kit's own tool. -/
import Derived.Test.YtafnlhnenmpfoaaDoorTypS
import Derived.Shelf.Strconv.ErrVarAll
import Derived.Ground.NamesProg
namespace Go.Proofs.YtafnlhnenmpfoaaDoor
set_option linter.unusedVariables false

/-- Trees in a row: a tree (kind, number, name, place, its kids), and those behind it. -/
structure Nd (α : Type) where
  k : Int
  n : Int
  nm : List UInt8
  a : Int
  kids : α
  rest : α
structure Fs where
  v : Option (Nd Fs)
abbrev Fs.nil : Fs := ⟨none⟩
abbrev Fs.cons (k n : Int) (nm : List UInt8) (a : Int) (ks r : Fs) : Fs := ⟨some ⟨k, n, nm, a, ks, r⟩⟩
theorem Fs.on {P : Fs → Prop} (f : Fs) (nil : P .nil) (cons : ∀ k n nm a ks r, P (.cons k n nm a ks r)) : P f := by
  obtain ⟨v⟩ := f
  cases v with
  | none => exact nil
  | some z => obtain ⟨k, n, nm, a, ks, r⟩ := z; exact cons k n nm a ks r
/-- A tree. -/
structure Ex where
  k : Int
  n : Int
  nm : List UInt8
  a : Int
  kids : Fs
def Fs.len : Fs → Nat
  | ⟨none⟩ => 0
  | ⟨some ⟨_, _, _, _, _, r⟩⟩ => r.len + 1
def Fs.app : Fs → Fs → Fs
  | ⟨none⟩, y => y
  | ⟨some ⟨k, n, nm, a, ks, r⟩⟩, y => .cons k n nm a ks (r.app y)
def one (e : Ex) : Fs := .cons e.k e.n e.nm e.a e.kids .nil
def Fs.snoc (f : Fs) (e : Ex) : Fs := f.app (one e)
theorem Fs.len_app : ∀ (x y : Fs), (x.app y).len = x.len + y.len
  | ⟨none⟩, y => by simp [Fs.app, Fs.len]
  | ⟨some ⟨k, n, nm, a, ks, r⟩⟩, y => by simp only [Fs.app, Fs.len]; rw [Fs.len_app r y]; omega
theorem Fs.len_snoc (x : Fs) (e : Ex) : (x.snoc e).len = x.len + 1 := by unfold Fs.snoc; rw [Fs.len_app]; rfl
def noEx : Ex := ⟨0, 0, [], 0, .nil⟩
def Fs.head : Fs → Ex
  | ⟨none⟩ => noEx
  | ⟨some ⟨k, n, nm, a, ks, _⟩⟩ => ⟨k, n, nm, a, ks⟩
/-- What a reader comes to: it has no more strength; it gives up, with an error and its place; or what is read, and the tokens behind it. -/
structure Rs (α : Type) where
  v : Option (Sum (Nat × Nat) (α × List Tk))
abbrev Rs.out {α : Type} : Rs α := ⟨none⟩
abbrev Rs.bad {α : Type} (e a : Nat) : Rs α := ⟨some (.inl (e, a))⟩
abbrev Rs.ok {α : Type} (x : α) (t : List Tk) : Rs α := ⟨some (.inr (x, t))⟩
theorem Rs.on {α : Type} {P : Rs α → Prop} (R : Rs α) (out : P .out) (bad : ∀ e a, P (.bad e a)) (ok : ∀ x t, P (.ok x t)) : P R := by
  obtain ⟨v⟩ := R
  match v with
  | none => exact out
  | some (.inl (e, a)) => exact bad e a
  | some (.inr (x, t)) => exact ok x t
theorem Rs.ok_inj {α : Type} {x y : α} {t u : List Tk} (h : Rs.ok x t = Rs.ok y u) : x = y ∧ t = u := by simpa using h
def Rs.bind {α β : Type} : Rs α → (α → List Tk → Rs β) → Rs β
  | ⟨none⟩, _ => .out
  | ⟨some (.inl (e, a))⟩, _ => .bad e a
  | ⟨some (.inr (x, ts))⟩, f => f x ts
/-- A reader of a row: the row, openings, quantifiers, tokens. -/
abbrev Rdr := Nat → Nat → Nat → List Tk → Rs Ex
def passT (s : List UInt8) : List Tk → Rs Nat
  | [] => .out
  | x :: r => if x.t = s then .ok x.a r else .bad 120 x.a
def passK (k : Nat) : List Tk → Rs Tk
  | [] => .out
  | x :: r => if x.k = k then .ok x r else .bad 120 x.a
def enterT (s : List UInt8) (o : Nat) : List Tk → Rs Nat
  | [] => .out
  | x :: r => if x.t = s then (if o = 64 then .bad 121 x.a else .ok x.a r) else .bad 120 x.a
/-- The operators: text, kind, row, the rows that are asked for. -/
def opsL : List (List UInt8 × Nat × Nat × Nat × Nat) :=
  [([111, 114], 18, 1, 1, 2), ([97, 110, 100], 17, 2, 2, 3), ([61], 13, 4, 5, 5), ([33, 61], 14, 4, 5, 5), ([60], 15, 4, 5, 5), ([60, 61], 16, 4, 5, 5), ([43], 8, 5, 5, 6), ([45], 9, 5, 5, 6), ([42], 10, 6, 6, 7), ([47], 11, 6, 6, 7), ([37], 12, 6, 6, 7)]
def opAt (t : List UInt8) (row : Nat) : Option (List UInt8 × Nat × Nat × Nat × Nat) := opsL.find? fun x => x.1 == t && x.2.2.1 == row
/-- The words of calls, with the number of each and of its arguments. -/
def callsL : List (List UInt8 × Nat × Nat) :=
  [([99, 111, 110, 110, 101, 99, 116, 101, 100], 1, 2), ([98, 108, 111, 99, 107], 2, 2), ([98, 111, 116, 116, 108, 101, 110, 101, 99, 107], 3, 2), ([115, 105, 122, 101], 4, 1), ([116, 111, 116, 97, 108], 5, 1), ([108, 101, 97, 115, 116], 6, 1), ([109, 111, 115, 116], 7, 1), ([118, 97, 108, 117, 101], 8, 1), ([100, 101, 103, 114, 101, 101], 9, 1), ([114, 101, 112], 10, 1)]
def callAt (t : List UInt8) : Option (List UInt8 × Nat × Nat) := callsL.find? fun x => x.1 == t
/-- The words of quantifiers, with the number of each. -/
def quantsL : List (List UInt8 × Nat) :=
  [([97, 108, 108], 1), ([115, 111, 109, 101], 2), ([99, 111, 117, 110, 116], 3), ([115, 117, 109], 4), ([109, 105, 110], 5), ([109, 97, 120], 6)]
def quantAt (t : List UInt8) : Option (List UInt8 × Nat) := quantsL.find? fun x => x.1 == t
/-- A chain goes on. -/
def chainL (rec : Rdr) : Nat → Nat → Nat → Nat → Ex → List Tk → Rs Ex
  | 0, _, _, _, _, _ => .out
  | m + 1, row, o, q, left, ts =>
    match ts with
    | [] => .out
    | x :: r =>
      match opAt x.t row with
      | none => .ok left ts
      | some (_, k, _, l, rt) => (rec rt o q r).bind fun right t2 => if row < l then .ok ⟨(k : Nat), 0, [], x.a, (one left).snoc right⟩ t2 else chainL rec m row o q ⟨(k : Nat), 0, [], x.a, (one left).snoc right⟩ t2
def prefR (rec : Rdr) (s : List UInt8) (k : Int) (row o q : Nat) (ts : List Tk) : Rs Ex :=
  match ts with
  | [] => .out
  | x :: r => if x.t = s then (if o = 64 then .bad 121 x.a else (rec row (o + 1) q r).bind fun kid t2 => .ok ⟨k, 0, [], x.a, one kid⟩ t2) else rec (row + 1) o q ts
/-- More arguments. -/
def argsL (rec : Rdr) : Nat → Nat → Nat → Fs → List Tk → Rs Fs
  | 0, _, _, acc, ts => .ok acc ts
  | j + 1, o, q, acc, ts => (passT [44] ts).bind fun _ t1 => (rec 1 o q t1).bind fun e t2 => argsL rec j o q (acc.snoc e) t2
/-- Some parts in parentheses. -/
def argsR (rec : Rdr) (many o q : Nat) (ts : List Tk) : Rs Fs :=
  (enterT [40] o ts).bind fun _ t1 => (rec 1 (o + 1) q t1).bind fun e t2 => (argsL rec (many - 1) (o + 1) q (one e) t2).bind fun ks t3 => (passT [41] t3).bind fun _ t4 => .ok ks t4
def choiceR (rec : Rdr) (o q : Nat) (ts : List Tk) : Rs Ex :=
  (enterT [105, 102] o ts).bind fun a t1 => (rec 1 (o + 1) q t1).bind fun x t2 => (passT [116, 104, 101, 110] t2).bind fun _ t3 => (rec 1 (o + 1) q t3).bind fun y t4 => (passT [101, 108, 115, 101] t4).bind fun _ t5 => (rec 1 (o + 1) q t5).bind fun z t6 => .ok ⟨19, 0, [], a, ((one x).snoc y).snoc z⟩ t6
/-- More members. -/
def memL (rec : Rdr) : Nat → Nat → Nat → Fs → List Tk → Rs Fs
  | 0, _, _, _, _ => .out
  | m + 1, o, q, acc, ts =>
    match ts with
    | [] => .out
    | x :: r => if x.t = [44] then (rec 1 o q r).bind fun e t2 => memL rec m o q (acc.snoc e) t2 else .ok acc ts
def memR (rec : Rdr) (m o q : Nat) (ts : List Tk) : Rs Fs :=
  match ts with
  | [] => .out
  | x :: r => if x.t = [125] then .ok .nil ts else (rec 1 o q ts).bind fun e t1 => memL rec m o q (one e) t1
def setR (rec : Rdr) (m o q : Nat) (ts : List Tk) : Rs Ex :=
  match ts with
  | [] => .out
  | x :: r =>
    if x.k = 2 then .ok ⟨23, 0, x.t, x.a, .nil⟩ r
    else if x.t = [118, 101, 114, 116, 105, 99, 101, 115] then .ok ⟨22, 0, [], x.a, .nil⟩ r
    else if x.t = [97, 114, 111, 117, 110, 100] then (argsR rec 1 o q r).bind fun ks t => .ok ⟨24, 0, [], x.a, ks⟩ t
    else (enterT [123] o ts).bind fun a t1 => (memR rec m (o + 1) q t1).bind fun ks t2 => (passT [125] t2).bind fun _ t3 => .ok ⟨25, 0, [], a, ks⟩ t3
def quantR (rec : Rdr) (m : Nat) (s : List UInt8) (n o q : Nat) (ts : List Tk) : Rs Ex :=
  match ts with
  | [] => .out
  | x :: r =>
    if q = 4 then .bad 121 x.a
    else (enterT s o ts).bind fun a t1 => (passK 2 t1).bind fun y t2 => (passT [105, 110] t2).bind fun _ t3 => (setR rec m (o + 1) (q + 1) t3).bind fun e t4 => (passT [58] t4).bind fun _ t5 => (rec 1 (o + 1) (q + 1) t5).bind fun b t6 => .ok ⟨21, (n : Nat), y.t, a, (one e).snoc b⟩ t6
def atomR (rec : Rdr) (m o q : Nat) (ts : List Tk) : Rs Ex :=
  match ts with
  | [] => .out
  | x :: r =>
    if x.k = 1 then .ok ⟨1, x.n, [], x.a, .nil⟩ r
    else if x.k = 2 then .ok ⟨4, 0, x.t, x.a, .nil⟩ r
    else if x.t = [102, 97, 108, 115, 101] then .ok ⟨2, 0, [], x.a, .nil⟩ r
    else if x.t = [116, 114, 117, 101] then .ok ⟨2, 1, [], x.a, .nil⟩ r
    else if x.t = [64] then (passK 1 r).bind fun y t1 => .ok ⟨3, y.n, [], x.a, .nil⟩ t1
    else if x.t = [40] then (argsR rec 1 o q ts).bind fun ks t1 => .ok ks.head t1
    else if x.t = [105, 102] then choiceR rec o q ts
    else match callAt x.t with
      | some (_, n, many) => (argsR rec many o q r).bind fun ks t1 => .ok ⟨20, (n : Nat), [], x.a, ks⟩ t1
      | none =>
        match quantAt x.t with
        | some (_, n) => quantR rec m x.t n o q ts
        | none => .bad 120 x.a
/-- A row is read, with strength for so many calls. -/
def partF : Nat → Rdr
  | 0, _, _, _, _ => .out
  | n + 1, row, o, q, ts =>
    if row = 3 then prefR (partF n) [110, 111, 116] 7 3 o q ts
    else if row = 7 then prefR (partF n) [45] 6 7 o q ts
    else if row = 8 then atomR (partF n) n o q ts
    else (partF n (row + 1) o q ts).bind fun l t => chainL (partF n) n row o q l t
/-- All tokens are read. -/
def readF (n : Nat) (ts : List Tk) : Rs Ex :=
  (partF n 1 0 0 ts).bind fun e t =>
    match t with
    | [] => .out
    | x :: _ => if x.k = 0 then .ok e t else .bad 120 x.a
end Go.Proofs.YtafnlhnenmpfoaaDoor
namespace Go.Proofs.YtafnlhnenmpfoaaDoor
open Go.ChangeShapes Go.WideShapes Go.ChangeAt Go.RowKit Go.Shelf
set_option linter.unusedVariables false

def atoiLay_ren : Go.Shelf.Ren := ⟨fun | 172 => 89 | 244 => 107 | 245 => 108 | 247 => 124 | 279 => 125 | 280 => 126 | 281 => 127 | 282 => 128 | 287 => 132 | 316 => 133 | 171 => 97 | 205 => 134 | 321 => 140 | 322 => 141 | 243 => 120 | 246 => 130 | 283 => 136 | 284 => 137 | 285 => 138 | 286 => 139 | 129 => 143 | 317 => 142 | 318 => 144 | 319 => 145 | 320 => 146 | 337 => 147 | 338 => 148 | n => n, fun | 9 => 9 | 3 => 3 | 75 => 114 | 76 => 115 | 4 => 4 | 5 => 5 | 167 => 143 | 37 => 82 | 0 => 0 | 85 => 144 | 2 => 2 | 168 => 146 | 53 => 150 | 175 => 151 | 46 => 153 | 210 => 155 | 127 => 164 | 145 => 167 | 143 => 165 | 21 => 21 | 171 => 158 | 173 => 161 | 212 => 169 | 51 => 170 | 20 => 20 | 213 => 171 | 232 => 175 | 233 => 176 | 80 => 177 | n => n, fun | 15 => 4 | 16 => 5 | 17 => 6 | 18 => 7 | 19 => 8 | n => n⟩
theorem atoiLay : Go.Proofs.LaysC.n172 Tryd.prog atoiLay_ren := {
  mixed := by kernel_rfl
  f129 := Tryd.func143.trans (congrArg some (by kernel_rfl))
  f171 := Tryd.func97.trans (congrArg some (by kernel_rfl))
  f172 := Tryd.func89.trans (congrArg some (by kernel_rfl))
  f205 := Tryd.func134.trans (congrArg some (by kernel_rfl))
  f243 := Tryd.func120.trans (congrArg some (by kernel_rfl))
  f244 := Tryd.func107.trans (congrArg some (by kernel_rfl))
  f245 := Tryd.func108.trans (congrArg some (by kernel_rfl))
  f246 := Tryd.func130.trans (congrArg some (by kernel_rfl))
  f247 := Tryd.func124.trans (congrArg some (by kernel_rfl))
  f279 := Tryd.func125.trans (congrArg some (by kernel_rfl))
  f280 := Tryd.func126.trans (congrArg some (by kernel_rfl))
  f281 := Tryd.func127.trans (congrArg some (by kernel_rfl))
  f282 := Tryd.func128.trans (congrArg some (by kernel_rfl))
  f283 := Tryd.func136.trans (congrArg some (by kernel_rfl))
  f284 := Tryd.func137.trans (congrArg some (by kernel_rfl))
  f285 := Tryd.func138.trans (congrArg some (by kernel_rfl))
  f286 := Tryd.func139.trans (congrArg some (by kernel_rfl))
  f287 := Tryd.func132.trans (congrArg some (by kernel_rfl))
  f316 := Tryd.func133.trans (congrArg some (by kernel_rfl))
  f317 := Tryd.func142.trans (congrArg some (by kernel_rfl))
  f318 := Tryd.func144.trans (congrArg some (by kernel_rfl))
  f319 := Tryd.func145.trans (congrArg some (by kernel_rfl))
  f320 := Tryd.func146.trans (congrArg some (by kernel_rfl))
  f321 := Tryd.func140.trans (congrArg some (by kernel_rfl))
  f322 := Tryd.func141.trans (congrArg some (by kernel_rfl))
  f337 := Tryd.func147.trans (congrArg some (by kernel_rfl))
  f338 := Tryd.func148.trans (congrArg some (by kernel_rfl))
  t0 := Tryd.underlying0
  a0 := Tryd.isAgg0
  z0 := Tryd.sizeOf0
  v0 := Tryd.zeroValue0
  t2 := Tryd.underlying2
  a2 := Tryd.isAgg2
  z2 := Tryd.sizeOf2
  v2 := Tryd.zeroValue2
  t3 := Tryd.underlying3
  a3 := Tryd.isAgg3
  z3 := Tryd.sizeOf3
  v3 := Tryd.zeroValue3
  t4 := Tryd.underlying4
  a4 := Tryd.isAgg4
  z4 := Tryd.sizeOf4
  v4 := Tryd.zeroValue4
  t5 := Tryd.underlying5
  a5 := Tryd.isAgg5
  z5 := Tryd.sizeOf5
  v5 := Tryd.zeroValue5
  t9 := Tryd.underlying9
  a9 := Tryd.isAgg9
  z9 := Tryd.sizeOf9
  v9 := Tryd.zeroValue9
  t20 := Tryd.underlying20
  a20 := Tryd.isAgg20
  z20 := Tryd.sizeOf20
  v20 := Tryd.zeroValue20
  t21 := Tryd.underlying21
  a21 := Tryd.isAgg21
  z21 := Tryd.sizeOf21
  v21 := Tryd.zeroValue21
  t37 := Tryd.underlying82
  a37 := Tryd.isAgg82
  z37 := Tryd.sizeOf82
  v37 := Tryd.zeroValue82
  t46 := Tryd.underlying153
  a46 := Tryd.isAgg153
  z46 := Tryd.sizeOf153
  v46 := Tryd.zeroValue153
  t51 := Tryd.underlying170
  a51 := Tryd.isAgg170
  z51 := Tryd.sizeOf170
  v51 := Tryd.zeroValue170
  t53 := Tryd.underlying150
  a53 := Tryd.isAgg150
  z53 := Tryd.sizeOf150
  v53 := Tryd.zeroValue150
  t75 := Tryd.underlying114
  a75 := Tryd.isAgg114
  z75 := Tryd.sizeOf114
  v75 := Tryd.zeroValue114
  t76 := Tryd.underlying115
  a76 := Tryd.isAgg115
  z76 := Tryd.sizeOf115
  v76 := Tryd.zeroValue115
  t85 := Tryd.underlying144
  a85 := Tryd.isAgg144
  z85 := Tryd.sizeOf144
  v85 := Tryd.zeroValue144
  t127 := Tryd.underlying164
  a127 := Tryd.isAgg164
  z127 := Tryd.sizeOf164
  v127 := Tryd.zeroValue164
  t143 := Tryd.underlying165
  a143 := Tryd.isAgg165
  z143 := Tryd.sizeOf165
  v143 := Tryd.zeroValue165
  t145 := Tryd.underlying167
  a145 := Tryd.isAgg167
  z145 := Tryd.sizeOf167
  v145 := Tryd.zeroValue167
  t167 := Tryd.underlying143
  a167 := Tryd.isAgg143
  z167 := Tryd.sizeOf143
  v167 := Tryd.zeroValue143
  t168 := Tryd.underlying146
  a168 := Tryd.isAgg146
  z168 := Tryd.sizeOf146
  v168 := Tryd.zeroValue146
  t171 := Tryd.underlying158
  a171 := Tryd.isAgg158
  z171 := Tryd.sizeOf158
  v171 := Tryd.zeroValue158
  t173 := Tryd.underlying161
  a173 := Tryd.isAgg161
  z173 := Tryd.sizeOf161
  v173 := Tryd.zeroValue161
  t175 := Tryd.underlying151
  a175 := Tryd.isAgg151
  z175 := Tryd.sizeOf151
  v175 := Tryd.zeroValue151
  t210 := Tryd.underlying155
  a210 := Tryd.isAgg155
  z210 := Tryd.sizeOf155
  v210 := Tryd.zeroValue155
  t212 := Tryd.underlying169
  a212 := Tryd.isAgg169
  z212 := Tryd.sizeOf169
  v212 := Tryd.zeroValue169
  t213 := Tryd.underlying171
  a213 := Tryd.isAgg171
  z213 := Tryd.sizeOf171
  t232 := Tryd.underlying175
  a232 := Tryd.isAgg175
  z232 := Tryd.sizeOf175
  v232 := Tryd.zeroValue175
  t233 := Tryd.underlying176
  a233 := Tryd.isAgg176
  z233 := Tryd.sizeOf176
  v233 := Tryd.zeroValue176
  g15 := by kernel_rfl
  g16 := by kernel_rfl
  g17 := by kernel_rfl
  g18 := by kernel_rfl
  g19 := by kernel_rfl
  t80 := Tryd.underlying177
  a80 := Tryd.isAgg177
  z80 := Tryd.sizeOf177
  v80 := Tryd.zeroValue177
  i0 := by kernel_rfl
  i2 := by kernel_rfl
  i3 := by kernel_rfl
  i4 := by kernel_rfl
  i5 := by kernel_rfl
  i9 := by kernel_rfl
  i20 := by kernel_rfl
  i21 := by kernel_rfl
  i37 := by kernel_rfl
  i46 := by kernel_rfl
  i51 := by kernel_rfl
  i53 := by kernel_rfl
  i75 := by kernel_rfl
  i76 := by kernel_rfl
  i80 := by kernel_rfl
  i85 := by kernel_rfl
  i127 := by kernel_rfl
  i143 := by kernel_rfl
  i145 := by kernel_rfl
  i167 := by kernel_rfl
  i168 := by kernel_rfl
  i171 := by kernel_rfl
  i173 := by kernel_rfl
  i175 := by kernel_rfl
  i210 := by kernel_rfl
  i212 := by kernel_rfl
  i232 := by kernel_rfl
  i233 := by kernel_rfl
  m15 := by kernel_rfl
  m16 := by kernel_rfl
  m17 := by kernel_rfl
  m18 := by kernel_rfl
  m19 := by kernel_rfl
  c0 := by kernel_rfl
  c2 := by kernel_rfl
  c3 := by kernel_rfl
  c4 := by kernel_rfl
  c5 := by kernel_rfl
  c9 := by kernel_rfl
  c20 := by kernel_rfl
  c21 := by kernel_rfl
  c37 := by kernel_rfl
  c46 := by kernel_rfl
  c51 := by kernel_rfl
  c53 := by kernel_rfl
  c75 := by kernel_rfl
  c76 := by kernel_rfl
  c80 := by kernel_rfl
  c85 := by kernel_rfl
  c127 := by kernel_rfl
  c143 := by kernel_rfl
  c145 := by kernel_rfl
  c167 := by kernel_rfl
  c168 := by kernel_rfl
  c171 := by kernel_rfl
  c173 := by kernel_rfl
  c175 := by kernel_rfl
  c210 := by kernel_rfl
  c212 := by kernel_rfl
  c213 := by kernel_rfl
  c232 := by kernel_rfl
  c233 := by kernel_rfl }

theorem gSyn : Tryd.prog.globalNamed "strconv.ErrSyntax" = some 4 := by kernel_rfl
theorem gRan : Tryd.prog.globalNamed "strconv.ErrRange" = some 5 := by kernel_rfl
/-- The two errors of the library lie where the program lays them, each an interface's value. -/
def Ers (w : World) : Prop := (∃ tp p, w.var? Tryd.prog "strconv.ErrSyntax" = some #[.iface tp p]) ∧ (∃ tp p, w.var? Tryd.prog "strconv.ErrRange" = some #[.iface tp p])
theorem var_below {w w' : World} {nm : String} {g : Nat} {cs : Array Value} (hg : Tryd.prog.globalNamed nm = some g) (h : w.var? Tryd.prog nm = some cs) (b : Below w.heap.size w w') : w'.var? Tryd.prog nm = some cs := by
  simp only [World.var?, hg, Option.bind_some] at h ⊢
  have hlt : g < w.heap.size := by
    by_cases hb : g < w.heap.size
    · exact hb
    · have h2 : w.heap[g]? = none := Array.getElem?_eq_none (by omega)
      rw [h2] at h
      cases h
  rw [b.block g hlt]
  exact h
theorem Ers.below {w w' : World} (h : Ers w) (b : Below w.heap.size w w') : Ers w' := by
  obtain ⟨⟨t1, p1, h1⟩, ⟨t2, p2, h2⟩⟩ := h
  exact ⟨⟨t1, p1, var_below gSyn h1 b⟩, ⟨t2, p2, var_below gRan h2 b⟩⟩
end Go.Proofs.YtafnlhnenmpfoaaDoor
