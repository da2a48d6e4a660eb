/- Plain: names, and the words that mean something. No program. -/
import Derived.Test.YtphdnfijefddlaaDoorPL
import Derived.Test.YtphdnfijefddlaaDoorU0
import Derived.Test.YtphdnfijefddlaaDoorV0
import Derived.WalkKit
namespace Go.Proofs.YtphdnfijefddlaaDoor
/-- The kind of the one token that a line is; 0: it is none. -/
def aloneK (l : List UInt8) : Int :=
  match lexT 120 0 l with
  | .ok [t] => if t.s = l then t.k else 0
  | _ => 0
def words : List (List UInt8) := [[99, 104, 97, 114, 116], [118, 97, 114], [115, 116, 97, 116, 101], [112, 97, 114, 97, 108, 108, 101, 108], [102, 105, 110, 97, 108], [100, 101, 101, 112], [115, 104, 97, 108, 108, 111, 119],
  [101, 110, 116, 101, 114], [101, 120, 105, 116], [111, 110], [97, 117, 116, 111], [101, 110, 100], [105, 102], [103, 111], [105, 110, 110, 101, 114], [100, 111],
  [115, 101, 116], [114, 97, 105, 115, 101], [115, 101, 110, 100], [99, 97, 110, 99, 101, 108], [108, 111, 103], [116, 114, 117, 101], [102, 97, 108, 115, 101], [110, 111, 116], [97, 110, 100], [111, 114], [105, 110]]
def allW : List UInt8 := 32 :: words.flatMap (· ++ [32])
theorem allW_length : allW.length = 134 := by decide +kernel
def meansB (l : List UInt8) : Bool := words.contains l
theorem words_found : (words.all fun wd => (List.range 140).any fun i => decide (i + wd.length + 2 ≤ allW.length) && ((allW.drop i).take (wd.length + 2) == 32 :: (wd ++ [32]))) = true := by decide +kernel
theorem words_are : ((List.range 140).all fun i => !(allW.getD i 0 == 32) || (List.range 140).all fun n => !(allW.getD (i + n + 1) 0 == 32) || decide (allW.length < i + n + 2) || ((!(n == 0) && (spanL innL ((allW.drop (i + 1)).take n) == n)) == words.contains ((allW.drop (i + 1)).take n))) = true := by decide +kernel
theorem words_at {wd : List UInt8} (h : wd ∈ words) : ∃ i, i + wd.length + 2 ≤ 134 ∧ (allW.drop i).take (wd.length + 2) = 32 :: (wd ++ [32]) := by
  have := List.all_eq_true.1 words_found wd h
  obtain ⟨i, _, hi⟩ := List.any_eq_true.1 this
  rw [Bool.and_eq_true, decide_eq_true_eq, beq_iff_eq, allW_length] at hi
  exact ⟨i, hi⟩
/-- Where the list has l between two blanks: l means something just if it is a word. -/
theorem words_match {l : List UInt8} {i : Nat} (hi : i + l.length + 2 ≤ 134) (h : (allW.drop i).take (l.length + 2) = 32 :: (l ++ [32])) : meansB l = (!(l.length == 0) && (spanL innL l == l.length)) := by
  have hl := allW_length
  have hi0 : allW.getD i 0 = 32 := by
    have := congrArg (·[0]?) h
    simp only [List.getElem?_take, List.getElem?_drop, List.getElem?_cons_zero, Nat.zero_lt_succ, if_true, Nat.add_zero] at this
    rw [List.getD_eq_getElem?_getD, this]; rfl
  have hin : allW.getD (i + l.length + 1) 0 = 32 := by
    have := congrArg (·[l.length + 1]?) h
    simp only [List.getElem?_take, List.getElem?_drop, List.getElem?_cons_succ] at this
    rw [if_pos (by omega), show i + (l.length + 1) = i + l.length + 1 by omega, List.getElem?_append_right (Nat.le_refl _), Nat.sub_self] at this
    rw [List.getD_eq_getElem?_getD, this]; rfl
  have hmid : (allW.drop (i + 1)).take l.length = l := by
    have := congrArg (fun x => (x.drop 1).take l.length) h
    simp only [List.drop_succ_cons, List.drop_zero, List.take_left' rfl] at this
    rw [List.drop_take, List.take_take, show min l.length (l.length + 2 - 1) = l.length by omega, List.drop_drop] at this
    exact this
  have h1 := List.all_eq_true.1 words_are i (List.mem_range.2 (by omega))
  rw [hi0] at h1
  simp only [beq_self_eq_true, Bool.not_true, Bool.false_or] at h1
  have h2 := List.all_eq_true.1 h1 l.length (List.mem_range.2 (by omega))
  rw [hin, hmid, hl] at h2
  have h3 : decide (134 < i + l.length + 2) = false := by rw [decide_eq_false_iff_not]; omega
  simp only [beq_self_eq_true, Bool.not_true, Bool.false_or, h3] at h2
  rw [beq_iff_eq] at h2
  exact h2.symm
theorem aloneK_err {l : List UInt8} {x : Int × Nat} (h : lexT 120 0 l = .error x) : aloneK l = 0 := by unfold aloneK; rw [h]
theorem aloneK_more {l : List UInt8} {ts : List Tk} (h : lexT 120 0 l = .ok ts) (hn : ts.length ≠ 1) : aloneK l = 0 := by
  unfold aloneK
  rw [h]
  match ts, hn with
  | [], _ => rfl
  | [_], h => exact absurd rfl h
  | _ :: _ :: _, _ => rfl
theorem aloneK_one {l : List UInt8} {t : Tk} (h : lexT 120 0 l = .ok [t]) : aloneK l = if t.s = l then t.k else 0 := by unfold aloneK; rw [h]
end Go.Proofs.YtphdnfijefddlaaDoor

