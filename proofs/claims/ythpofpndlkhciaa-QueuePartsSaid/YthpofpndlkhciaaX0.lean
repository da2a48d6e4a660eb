/- Plain: an expression in a line's tokens, by what waits: a machine over lists. What stands behind a semicolon makes no difference. No program. -/
import Derived.Test.YthpofpndlkhciaaNM
import Derived.Test.YthpofpndlkhciaaLA
namespace Go.Proofs.Ythpofpndlkhciaa
/-- A node: its operation, its value (kind, number, text), its name, its parts. -/
structure Nd where
  op : Int
  k : Int
  n : Int
  s : List UInt8
  name : List UInt8
  l : Int
  r : Int
/-- What a reader holds: its place, the nodes, the parts and what waits (the last one first), how many parentheses. -/
structure Rd where
  at_ : Nat
  nodes : List Nd
  parts : List Nat
  wait : List Int
  within : Nat
def Rd.add (r : Rd) (n : Nd) : Rd := { r with nodes := r.nodes ++ [n], parts := r.nodes.length :: r.parts }
def cnt (op : Int) : Nat := if op = 1 ∨ op = 2 then 1 else if 3 ≤ op ∧ op ≤ 15 then 2 else 0
def tightI (op : Int) : Int :=
  if op = -1 then 0 else if op = 15 then 1 else if op = 14 then 2 else if 8 ≤ op ∧ op ≤ 13 then 3 else if 6 ≤ op ∧ op ≤ 7 then 4 else if 3 ≤ op ∧ op ≤ 5 then 5 else 6
def leftI (op : Int) : Int := if tightI op = 3 then 4 else tightI op
def opn (op : Int) (ps : List Nat) : Nd := ⟨op, 0, 0, [], [], (ps.getD 0 0 : Nat), (ps.getD 1 0 : Nat)⟩
/-- Is there such a word, or sign? -/
def wordB (t : Tk) (x : List UInt8) : Bool := (t.k == 1 || t.k == 5) && t.s == x
def tkAt (ts : List Tk) (a : Nat) (x : List UInt8) : Bool :=
  match ts[a]? with
  | some t => wordB t x
  | none => false
def signL : List (List UInt8) := [[], [110, 111, 116], [45], [42], [47], [37], [43], [45], [60], [60, 61], [62], [62, 61], [61], [33, 61], [97, 110, 100], [111, 114]]
def ahead (ts : List Tk) (r : Rd) : Option Rd :=
  if tkAt ts r.at_ [110, 111, 116] then some { r with at_ := r.at_ + 1, wait := 1 :: r.wait }
  else if tkAt ts r.at_ [45] then some { r with at_ := r.at_ + 1, wait := 2 :: r.wait }
  else if tkAt ts r.at_ [40] then some { r with at_ := r.at_ + 1, wait := -1 :: r.wait, within := r.within + 1 }
  else none
def aheads : Nat → List Tk → Rd → Rd
  | 0, _, r => r
  | f + 1, ts, r =>
    match ahead ts r with
    | some r' => aheads f ts r'
    | none => r
def nameAt (ts : List Tk) (a : Nat) : Option (List UInt8) :=
  match ts[a]? with
  | some t => if t.k == 1 && !meansB t.s then some t.s else none
  | none => none
def rname (op : Int) (ts : List Tk) (r : Rd) : Option Rd :=
  match nameAt ts r.at_ with
  | some s => some { r.add ⟨op, 0, 0, [], s, 0, 0⟩ with at_ := r.at_ + 1 }
  | none => none
def valueAt (ts : List Tk) (a : Nat) : Option Nd :=
  match ts[a]? with
  | some t => if t.k == 3 then some ⟨0, 1, t.n, [], [], 0, 0⟩ else if t.k == 4 then some ⟨0, 3, 0, t.s, [], 0, 0⟩ else if wordB t [116, 114, 117, 101] then some ⟨0, 2, 1, [], [], 0, 0⟩ else if wordB t [102, 97, 108, 115, 101] then some ⟨0, 2, 0, [], [], 0, 0⟩ else none
  | none => none
def rvalue (ts : List Tk) (r : Rd) : Option Rd :=
  match valueAt ts r.at_ with
  | some n => some { r.add n with at_ := r.at_ + 1 }
  | none => none
def takes (ts : List Tk) (x : List UInt8) (r : Rd) : Option Rd := if tkAt ts r.at_ x then some { r with at_ := r.at_ + 1 } else none
def atom (ts : List Tk) (r : Rd) : Option Rd :=
  match takes ts [105, 110] r with
  | some r1 =>
    match takes ts [40] r1 with
    | some r2 =>
      match rname 17 ts r2 with
      | some r3 => takes ts [41] r3
      | none => none
    | none => none
  | none =>
    match rname 16 ts r with
    | some r1 => some r1
    | none => rvalue ts r
def popOp (op : Int) (ws : List Int) (r : Rd) : Rd := { r with wait := ws, parts := r.parts.drop (cnt op) }.add (opn op (r.parts.take (cnt op)).reverse)
def finL (least : Int) : List Int → Rd → Rd
  | [], r => { r with wait := [] }
  | op :: ws, r => if tightI op < least then { r with wait := op :: ws } else finL least ws (popOp op ws r)
def finish (least : Int) (r : Rd) : Rd := finL least r.wait r
def opFrom (t : Tk) : Nat → Int → Int
  | 0, _ => 0
  | f + 1, i => if wordB t (signL.getD i.toNat []) then i else opFrom t f (i + 1)
def between (ts : List Tk) (a : Nat) : Int :=
  match ts[a]? with
  | some t => opFrom t 13 3
  | none => 0
def topIs (ws : List Int) (k : Int) : Bool :=
  match ws with
  | o :: _ => tightI o == k
  | [] => false
def more (ts : List Tk) (r : Rd) : Bool × Rd :=
  if between ts r.at_ == 0 then (false, r)
  else if topIs (finish (leftI (between ts r.at_)) r).wait (tightI (between ts r.at_)) then (false, finish (leftI (between ts r.at_)) r)
  else (true, { finish (leftI (between ts r.at_)) r with wait := between ts r.at_ :: (finish (leftI (between ts r.at_)) r).wait, at_ := r.at_ + 1 })
def close (r : Rd) : Rd := { finish 1 { r with at_ := r.at_ + 1 } with wait := (finish 1 { r with at_ := r.at_ + 1 }).wait.tail, within := r.within - 1 }
def closes : Nat → List Tk → Rd → Rd
  | 0, _, r => r
  | f + 1, ts, r => if 0 < r.within ∧ tkAt ts r.at_ [41] = true then closes f ts (close r) else r
def one (ts : List Tk) (r : Rd) : Option Rd :=
  match atom ts (aheads 128 ts r) with
  | some r1 => some (closes 128 ts r1)
  | none => none
def whole : Nat → List Tk → Rd → Option Rd
  | 0, _, _ => none
  | f + 1, ts, r =>
    match one ts r with
    | none => none
    | some r1 =>
      match more ts r1 with
      | (true, r2) => whole f ts r2
      | (false, r2) => if (finish 1 r2).within = 0 then some (finish 1 r2) else none
/-! ### What holds of a reader -/
/-! ### What stands behind a semicolon -/
section
variable {ts rest : List Tk} {c : Tk}
end
end Go.Proofs.Ythpofpndlkhciaa

