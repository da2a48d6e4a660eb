import Derived.Test.YtidbmampjjgkpaaDoorL
import Derived.Test.YtidbmampjjgkpaaDoorJ
import Derived.Test.YtidbmampjjgkpaaDoorI
import Derived.WalkKit
import Derived.ProofKit
import Derived.OpenShut
import Derived.Handy
import Derived.BigQuiet
import Derived.Lib.Hide
import Derived.WalkLawsBesides
namespace Go.Proofs.YtidbmampjjgkpaaDoor
open Go.RowKit
theorem alone_f {op : Int} (h : aloneB op = false) (w : World) : Calls Tryd.prog 45 #[.int .i64 op] w (RetW (.bool false) w) := by have := alone_any op w; rw [h] at this; exact this
theorem alone_t {op : Int} (h : aloneB op = true) (w : World) : Calls Tryd.prog 45 #[.int .i64 op] w (RetW (.bool true) w) := by have := alone_any op w; rw [h] at this; exact this
theorem result_t {op a b : Int} (h : resB op a b = true) (w : World) : Calls Tryd.prog 19 #[.int .i64 op, .int .i64 a, .int .i64 b] w (RetW (.tuple #[.int .i64 (resK op a b), .bool true]) w) := by have := result_any op a b w; rw [h] at this; exact this
theorem result_f {op a b : Int} (h : resB op a b = false) (w : World) : Calls Tryd.prog 19 #[.int .i64 op, .int .i64 a, .int .i64 b] w (RetW (.tuple #[.int .i64 (resK op a b), .bool false]) w) := by have := result_any op a b w; rw [h] at this; exact this
/-- Of two texts one is ahead, or they are one. -/
theorem bless_tri : ∀ x y : List UInt8, Op.bytesLess y x = (!(Op.bytesLess x y) && !(x == y))
  | [], [] => by decide
  | [], _ :: _ => by simp [Op.bytesLess]
  | _ :: _, [] => by simp [Op.bytesLess]
  | a :: x, b :: y => by
    rw [bless_cons, bless_cons, bless_tri x y]
    rcases Nat.lt_trichotomy a.toNat b.toNat with h | h | h
    · have h1 : a < b := UInt8.lt_iff_toNat_lt.2 h
      have h2 : ¬ b < a := fun e => by have := UInt8.lt_iff_toNat_lt.1 e; omega
      have h3 : b ≠ a := fun e => by subst e; omega
      simp [h1, h2, h3]
    · obtain rfl : a = b := UInt8.toNat_inj.1 h
      have h2 : ¬ a < a := UInt8.lt_irrefl a
      simp [h2, List.cons_beq_cons]
    · have h1 : b < a := UInt8.lt_iff_toNat_lt.2 h
      have h2 : ¬ a < b := fun e => by have := UInt8.lt_iff_toNat_lt.1 e; omega
      have h3 : a ≠ b := fun e => by subst e; omega
      simp [h1, h2, h3]
theorem stand_n (n n2 : Int) : standB 8 (cmpI n n2) = decide (n < n2) ∧ standB 9 (cmpI n n2) = !decide (n2 < n) ∧ standB 10 (cmpI n n2) = decide (n2 < n) ∧ standB 11 (cmpI n n2) = !decide (n < n2) := by
  rcases Int.lt_trichotomy n n2 with h | h | h
  · have h2 : ¬ n2 < n := by omega
    simp [standB, cmpI, h, h2]
  · subst h; simp [standB, cmpI]
  · have h2 : ¬ n < n2 := by omega
    simp [standB, cmpI, h, h2]
theorem stand_s (s t : ByteArray) : standB 8 (cmpS s t) = Op.bytesLess s.toList t.toList ∧ standB 9 (cmpS s t) = !(Op.bytesLess t.toList s.toList) ∧ standB 10 (cmpS s t) = Op.bytesLess t.toList s.toList ∧ standB 11 (cmpS s t) = !(Op.bytesLess s.toList t.toList) := by
  have h := bless_tri s.toList t.toList
  unfold cmpS
  rw [← h]
  rcases h1 : Op.bytesLess s.toList t.toList
  · rcases h2 : Op.bytesLess t.toList s.toList <;> simp [standB]
  · rw [h1] at h
    simp only [Bool.not_true, Bool.false_and] at h
    rw [h]; simp [standB]
def lessB (k n : Int) (s : ByteArray) (n2 : Int) (s2 : ByteArray) : Bool := if k = 3 then Op.bytesLess s.data.toList s2.data.toList else decide (n < n2)
def eqB (n : Int) (s : ByteArray) (n2 : Int) (s2 : ByteArray) : Bool := n == n2 && s.toList == s2.toList
/-- What is reckoned. -/
def rk (op k n : Int) (s : ByteArray) (n2 : Int) (s2 : ByteArray) : Rk :=
  if op = 1 then trR (n == 0) else if op = 2 then numR (-n) else if op = 3 then numR (n * n2)
  else if op = 4 then (if n2 = 0 then errR 22 else numR (n.tdiv n2)) else if op = 5 then (if n2 = 0 then errR 22 else ⟨1, n.tmod n2, ⟨#[]⟩, 0⟩)
  else if op = 6 then (if k = 1 then numR (n + n2) else joinR s s2) else if op = 7 then numR (n - n2)
  else if op = 8 then trR (lessB k n s n2 s2) else if op = 9 then trR (!lessB k n2 s2 n s) else if op = 10 then trR (lessB k n2 s2 n s) else if op = 11 then trR (!lessB k n s n2 s2)
  else if op = 12 then trR (eqB n s n2 s2) else if op = 13 then trR (!eqB n s n2 s2)
  else if op = 14 then trR (n == 1 && n2 == 1) else trR (n == 1 || n2 == 1)
end Go.Proofs.YtidbmampjjgkpaaDoor
