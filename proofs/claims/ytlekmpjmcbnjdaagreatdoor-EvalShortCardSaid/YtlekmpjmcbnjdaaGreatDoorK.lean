import Derived.Test.YtlekmpjmcbnjdaaGreatDoorZ3
import Derived.WalkKit
import Derived.ProofKit
import Derived.OpenShut
import Derived.Handy
import Derived.BigQuiet
import Derived.Lib.Hide
import Derived.WalkLawsBesides
namespace Go.Proofs.YtlekmpjmcbnjdaaGreatDoor
open Go.RowKit
theorem resK_other (op a b : Int) (h : op ≠ 1 ∧ op ≠ 2 ∧ op ≠ 3 ∧ op ≠ 4 ∧ op ≠ 5 ∧ op ≠ 6 ∧ op ≠ 7 ∧ op ≠ 8 ∧ op ≠ 9 ∧ op ≠ 10 ∧ op ≠ 11 ∧ op ≠ 12 ∧ op ≠ 13 ∧ op ≠ 14 ∧ op ≠ 15) : resK op a b = 0 := resK_f (by simp [resB, takes_other op a h])
set_option maxHeartbeats 4000000 in
theorem rresult_any (op a b : Int) (w : World) : Calls Tryz.prog 23 #[.int .i64 op, .int .i64 a, .int .i64 b] w (RetW (.int .i64 (resK op a b)) w) := by
  have hd : Hid (resK op a b = if resB op a b then (if op = 2 ∨ op = 3 ∨ op = 4 ∨ op = 5 ∨ op = 6 ∨ op = 7 then a else 2) else 0) := rfl
  rcases op_cases op with rfl | rfl | rfl | rfl | rfl | rfl | rfl | rfl | rfl | rfl | rfl | rfl | rfl | rfl | rfl | h
  case' inr.inr.inr.inr.inr.inr.inr.inr.inr.inr.inr.inr.inr.inr.inr =>
    have ht := Lib.hid (resK_other op a b h)
    have e := fun i (hi : op ≠ i) => (beq_eq_false_iff_ne.2 hi : (op == i) = false)
    have e1 := e 1 h.1
    have e2 := e 2 h.2.1
    have hb : op < 3 ∨ 15 < op := by omega
    clear h e hd
    rcases hb with hb | hb
    all_goals
      go_enter Tryz.func23, Tryz.ntmps23
      go_wp2
      all_goals go_returns
      all_goals exact ⟨ret_int ht.out.symm, rfl⟩
  all_goals
    by_cases hab : a = b
    · subst hab
      go_enter Tryz.func23, Tryz.ntmps23
      go_wp2
      all_goals go_returns
      all_goals exact ⟨ret_int (by rw [hd.out]; clear hd; first | (simp [resB, takesB, aloneB]; done) | (simp [resB, takesB, aloneB]; omega) | (simp [resB, takesB, aloneB]; simp_all; done) | (simp [resB, takesB, aloneB]; simp_all; omega)), rfl⟩
    · have hn : (a == b) = false := by simpa using hab
      have hn' : (a != b) = true := by rw [bne, hn]; rfl
      clear hab
      go_enter Tryz.func23, Tryz.ntmps23
      go_wp2
      all_goals go_returns
      all_goals exact ⟨ret_int (by rw [hd.out]; clear hd; first | (simp [resB, takesB, aloneB, hn]; done) | (simp [resB, takesB, aloneB, hn]; omega) | (simp [resB, takesB, aloneB, hn]; simp_all; done) | (simp [resB, takesB, aloneB, hn]; simp_all; omega)), rfl⟩
end Go.Proofs.YtlekmpjmcbnjdaaGreatDoor

