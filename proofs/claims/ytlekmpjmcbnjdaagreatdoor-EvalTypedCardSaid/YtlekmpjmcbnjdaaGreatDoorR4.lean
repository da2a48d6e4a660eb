import Derived.Test.YtlekmpjmcbnjdaaGreatDoorZ3
import Derived.WalkKit
import Derived.ProofKit
import Derived.OpenShut
import Derived.Handy
import Derived.BigQuiet
import Derived.Lib.Hide
import Derived.Lib.Strings
import Derived.WalkLawsBesides
namespace Go.Proofs.YtlekmpjmcbnjdaaGreatDoor
open Go.RowKit
/-- What is reckoned is a right value of the kind that is told. -/
def RkGood (r : Rk) (K : Int) : Prop := (r.e = 0 → rightB r.k r.n r.s = true ∧ r.k = K) ∧ r.s.size ≤ 48
theorem empty_le : (⟨#[]⟩ : ByteArray).size ≤ 48 := by decide
theorem right_num (x : Int) : rightB 1 x ⟨#[]⟩ = true := by simp [rightB, Lib.toList_data]
theorem right_tr (b : Bool) : rightB 2 (bI b) ⟨#[]⟩ = true := by cases b <;> simp [rightB, bI, Lib.toList_data]
theorem good_num (x : Int) : RkGood (numR x) 1 := by
  refine ⟨fun h => ?_, empty_le⟩
  have hi : inR x = true := by
    rcases hi : inR x
    · simp [numR, nE, hi] at h
    · rfl
  have e1 : (numR x).k = 1 := nK_t hi
  have e2 : (numR x).n = x := nN_t hi
  rw [e1, e2]
  exact ⟨right_num x, rfl⟩
theorem good_tr (b : Bool) : RkGood (trR b) 2 := ⟨fun _ => ⟨right_tr b, rfl⟩, empty_le⟩
theorem good_err (e K : Int) (h : e ≠ 0) : RkGood (errR e) K := ⟨fun h' => absurd h' h, empty_le⟩
theorem good_rem (x : Int) : RkGood ⟨1, x, ⟨#[]⟩, 0⟩ 1 := ⟨fun _ => ⟨right_num x, rfl⟩, empty_le⟩
theorem good_join (s t : ByteArray) (hs : plainB s.data.toList = true) (ht : plainB t.data.toList = true) : RkGood (joinR s t) 3 := by
  unfold joinR
  by_cases h : s.size + t.size ≤ 48
  · rw [if_pos h]
    refine ⟨fun _ => ⟨?_, rfl⟩, by rw [ByteArray.size_append]; exact h⟩
    have e : (s ++ t).data.toList = s.data.toList ++ t.data.toList := by simp
    have hl : (s ++ t).data.toList.length ≤ 48 := by rw [e, List.length_append, pre_len, pre_len]; exact h
    simp only [plainB, Bool.and_eq_true] at hs ht
    simp only [rightB, plainB, e]
    rw [e] at hl
    simp [hs.2, ht.2, List.all_append]
    simpa using hl
  · rw [if_neg h]; exact good_err 15 3 (by decide)
theorem rk_good (op k n : Int) (s : ByteArray) (k2 n2 : Int) (s2 : ByteArray) (ha : rightB k n s = true) (hb : aloneB op = false → rightB k2 n2 s2 = true) (hr : resB op k k2 = true) : RkGood (rk op k n s n2 s2) (resK op k k2) := by
  have ht := resB_takes hr
  have a := right_cases k n s ha
  by_cases hn : op = 2 ∨ op = 3 ∨ op = 4 ∨ op = 5 ∨ op = 6 ∨ op = 7
  · rw [resK_a hr hn]
    rcases hn with rfl | rfl | rfl | rfl | rfl | rfl
    all_goals
      rcases a with ⟨rfl, rfl⟩ | ⟨rfl, rfl, a⟩ | ⟨rfl, rfl, a, a'⟩
      all_goals first | (exact absurd ht (by decide)) | skip
    · exact good_num _
    · exact good_num _
    · show RkGood (if n2 = 0 then errR 22 else numR (n.tdiv n2)) 1
      by_cases h0 : n2 = 0
      · rw [if_pos h0]; exact good_err _ _ (by decide)
      · rw [if_neg h0]; exact good_num _
    · show RkGood (if n2 = 0 then errR 22 else ⟨1, n.tmod n2, ⟨#[]⟩, 0⟩) 1
      by_cases h0 : n2 = 0
      · rw [if_pos h0]; exact good_err _ _ (by decide)
      · rw [if_neg h0]; exact good_rem _
    · exact good_num _
    · obtain rfl := res_kinds hr (by decide)
      rcases right_cases 3 n2 s2 (hb (by decide)) with ⟨h, _⟩ | ⟨h, _⟩ | ⟨_, _, b, _⟩
      · omega
      · omega
      · exact good_join s s2 a b
    · exact good_num _
  · rw [resK_2 hr hn]
    rcases op_cases op with rfl | rfl | rfl | rfl | rfl | rfl | rfl | rfl | rfl | rfl | rfl | rfl | rfl | rfl | rfl | h
    case' inr.inr.inr.inr.inr.inr.inr.inr.inr.inr.inr.inr.inr.inr.inr => rw [takes_other op k h] at ht; cases ht
    all_goals first | (exact absurd hn (by decide)) | skip
    all_goals exact good_tr _
theorem resK_ne {op k n : Int} {s : ByteArray} {k2 : Int} (ha : rightB k n s = true) (hr : resB op k k2 = true) : (resK op k k2 == 0) = false := by
  by_cases hn : op = 2 ∨ op = 3 ∨ op = 4 ∨ op = 5 ∨ op = 6 ∨ op = 7
  · rw [resK_a hr hn]
    rcases right_cases k n s ha with ⟨rfl, _⟩ | ⟨rfl, _⟩ | ⟨rfl, _⟩ <;> decide
  · rw [resK_2 hr hn]; decide
theorem resB_alone {op k k2 k3 : Int} (ho : aloneB op = true) : resB op k k2 = resB op k k3 := by simp [resB, ho]
end Go.Proofs.YtlekmpjmcbnjdaaGreatDoor

