/- Plain: a line's tokens, from the left. No program. -/
import Derived.Test.YtphdnfijefddlaaDoorE
import Derived.WalkKit
import Derived.Lib.Hide
namespace Go.Proofs.YtphdnfijefddlaaDoor
open Go.RowKit

def letB (c : UInt8) : Bool := decide (97 ≤ (c.toNat : Int)) && decide ((c.toNat : Int) ≤ 122)
def digB (c : UInt8) : Bool := decide (48 ≤ (c.toNat : Int)) && decide ((c.toNat : Int) ≤ 57)
def innB (c : UInt8) : Bool := letB c || digB c || (c.toNat : Int) == 95
def headL : List UInt8 → Bool
  | [] => false
  | c :: _ => letB c
/-- What a word, or a path, goes on with. -/
def wordL : List UInt8 → Bool
  | [] => false
  | c :: r => innB c || ((c.toNat : Int) == 46) && headL r
def digL : List UInt8 → Bool
  | [] => false
  | c :: _ => digB c
def blankL : List UInt8 → Bool
  | [] => false
  | c :: _ => (c.toNat : Int) == 32
def textL : List UInt8 → Bool
  | [] => false
  | c :: _ => !((c.toNat : Int) == 39)
/-- How many bytes there are that belong. -/
def spanL (p : List UInt8 → Bool) : List UInt8 → Nat
  | [] => 0
  | c :: r => if p (c :: r) then spanL p r + 1 else 0
/-- Is a part between dots too long, where n bytes of the first one are ahead? -/
def longL : Nat → List UInt8 → Bool
  | n, [] => decide (16 < n)
  | n, c :: r => if (c.toNat : Int) == 46 then decide (16 < n) || longL 0 r else longL (n + 1) r
def dotL (l : List UInt8) : Bool := l.any fun c => (c.toNat : Int) == 46
def valL (l : List UInt8) : Nat := l.foldl (fun a c => a * 10 + (c.toNat - 48)) 0
/-- A token: its kind, its text, its number, and how many bytes it takes; or an error. -/
abbrev Tok := Except Int (Int × List UInt8 × Int × Nat)
def wordT (l : List UInt8) : Tok :=
  let t := l.take (spanL wordL l)
  if decide (32 < t.length) || longL 0 t then .error 15 else .ok (if dotL t then 2 else 1, t, 0, t.length)
def numT (l : List UInt8) : Tok :=
  let t := l.take (spanL digL l)
  if decide (1 < t.length) && t.head? == some 48 then .error 11 else if 9223372036854775807 < valL t then .error 21 else .ok (3, t, valL t, t.length)
def quoT (r : List UInt8) : Tok :=
  let m := spanL textL r
  if m = r.length then .error 14 else if 48 < m then .error 15 else if plainB (r.take m) then .ok (4, r.take m, 0, m + 2) else .error 11
def twoB (c : UInt8) : Bool := (c.toNat : Int) == 60 || (c.toNat : Int) == 62 || (c.toNat : Int) == 33
def ones : List UInt8 := [40, 41, 59, 58, 43, 45, 42, 47, 37, 60, 62, 61]
def eqL : List UInt8 → Bool
  | [] => false
  | c :: _ => (c.toNat : Int) == 61
def sgnT (c : UInt8) (r : List UInt8) : Tok :=
  if twoB c && eqL r then .ok (5, [c, 61], 0, 2) else if ones.contains c then .ok (5, [c], 0, 1) else .error 11
def tokT : List UInt8 → Tok
  | [] => .error 11
  | c :: r => if letB c then wordT (c :: r) else if digB c then numT (c :: r) else if (c.toNat : Int) == 39 then quoT r else sgnT c r
/-- A token: its kind, text, number, and place. -/
structure Tk where
  k : Int
  s : List UInt8
  n : Int
  a : Nat
/-- A line's tokens, or an error and a place; at most m; a is the place. -/
def lexT : Nat → Nat → List UInt8 → Except (Int × Nat) (List Tk)
  | 0, a, l =>
    match l.drop (spanL blankL l) with
    | [] => .ok []
    | _ :: _ => .error (13, a + spanL blankL l)
  | m + 1, a, l =>
    match l.drop (spanL blankL l) with
    | [] => .ok []
    | c :: r =>
      match tokT (c :: r) with
      | .error e => .error (e, a + spanL blankL l)
      | .ok (k, t, n, z) =>
        match lexT m (a + spanL blankL l + z) ((c :: r).drop z) with
        | .error x => .error x
        | .ok ts => .ok (⟨k, t, n, a + spanL blankL l⟩ :: ts)
def pre (ts : List Tk) : Except (Int × Nat) (List Tk) → Except (Int × Nat) (List Tk)
  | .error x => .error x
  | .ok r => .ok (ts ++ r)
theorem pre_nil (x : Except (Int × Nat) (List Tk)) : pre [] x = x := by cases x <;> rfl
theorem pre_pre (a b : List Tk) (x : Except (Int × Nat) (List Tk)) : pre a (pre b x) = pre (a ++ b) x := by
  cases x with
  | error x => rfl
  | ok r => simp [pre]
theorem spanL_le (p : List UInt8 → Bool) : ∀ l, spanL p l ≤ l.length
  | [] => Nat.le_refl _
  | c :: r => by
    rw [spanL]
    have := spanL_le p r
    split
    · simp; omega
    · simp
theorem span_yes {p : List UInt8 → Bool} {c : UInt8} {r : List UInt8} (h : p (c :: r) = true) : spanL p (c :: r) = spanL p r + 1 := by rw [spanL, if_pos h]
theorem span_no {p : List UInt8 → Bool} {c : UInt8} {r : List UInt8} (h : p (c :: r) = false) : spanL p (c :: r) = 0 := by rw [spanL, h]; rfl
/-- Ahead of a blank. -/
theorem lexT_blank (m a : Nat) (c : UInt8) (r : List UInt8) (h : ((c.toNat : Int) == 32) = true) : lexT m a (c :: r) = lexT m (a + 1) r := by
  have e : spanL blankL (c :: r) = spanL blankL r + 1 := span_yes (p := blankL) h
  cases m with
  | zero => rw [lexT, lexT, e, List.drop_succ_cons, show a + (spanL blankL r + 1) = a + 1 + spanL blankL r by omega]
  | succ m => rw [lexT, lexT, e, List.drop_succ_cons, show a + (spanL blankL r + 1) = a + 1 + spanL blankL r by omega]
theorem lexT_end (m a : Nat) : lexT m a [] = .ok [] := by cases m <;> rfl
theorem lexT_many (a : Nat) (c : UInt8) (r : List UInt8) (h : ((c.toNat : Int) == 32) = false) : lexT 0 a (c :: r) = .error (13, a) := by
  rw [lexT, span_no (p := blankL) h]; rfl
theorem lexT_bad (m a : Nat) (c : UInt8) (r : List UInt8) (e : Int) (h : ((c.toNat : Int) == 32) = false) (ht : tokT (c :: r) = .error e) : lexT (m + 1) a (c :: r) = .error (e, a) := by
  rw [lexT, span_no (p := blankL) h]
  simp only [List.drop_zero, ht, Nat.add_zero]
theorem lexT_tok (m a : Nat) (c : UInt8) (r : List UInt8) (k : Int) (t : List UInt8) (n : Int) (z : Nat) (h : ((c.toNat : Int) == 32) = false) (ht : tokT (c :: r) = .ok (k, t, n, z)) :
    lexT (m + 1) a (c :: r) = pre [⟨k, t, n, a⟩] (lexT m (a + z) ((c :: r).drop z)) := by
  rw [lexT, span_no (p := blankL) h]
  simp only [List.drop_zero, ht, Nat.add_zero]
  cases lexT m (a + z) ((c :: r).drop z) <;> rfl
end Go.Proofs.YtphdnfijefddlaaDoor

