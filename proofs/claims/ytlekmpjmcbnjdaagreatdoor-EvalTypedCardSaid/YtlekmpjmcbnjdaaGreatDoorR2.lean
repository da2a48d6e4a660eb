import Derived.Test.YtlekmpjmcbnjdaaGreatDoorN
import Derived.Test.YtlekmpjmcbnjdaaGreatDoorZ3
import Derived.WalkKit
import Derived.ProofKit
import Derived.OpenShut
import Derived.Handy
import Derived.BigQuiet
import Derived.Lib.Hide
import Derived.Lib.Strings
import Derived.WalkLawsBesides
namespace Go.Proofs.YtlekmpjmcbnjdaaGreatDoor
open Go.RowKit
theorem lessR_8 (a b : Bool) : lessR 8 a b = a := rfl
theorem rreckon_any (op : Int) (k n : Int) (s : ByteArray) (k2 n2 : Int) (s2 : ByteArray) (ha : rightB k n s = true) (hb : aloneB op = false → rightB k2 n2 s2 = true) (hn : I64 n) (hn2 : I64 n2) (hr : resB op k k2 = true) (w : World) :
    Calls Tryz.prog 24 #[.int .i64 op, .agg #[.int .i64 k, .int .i64 n, .string s], .agg #[.int .i64 k2, .int .i64 n2, .string s2]] w (Ret (rkV (rk op k n s n2 s2)) w) := by
  have ht := resB_takes hr
  have a := right_cases k n s ha
  rcases ho : aloneB op
  · obtain rfl := res_kinds hr ho
    have b := right_cases k n2 s2 (hb ho)
    clear ha hb hr
    rcases op_cases op with rfl | rfl | rfl | rfl | rfl | rfl | rfl | rfl | rfl | rfl | rfl | rfl | rfl | rfl | rfl | h
    case' inr.inr.inr.inr.inr.inr.inr.inr.inr.inr.inr.inr.inr.inr.inr => rw [takes_other op k h] at ht; cases ht
    all_goals first | (exact absurd ho (by decide)) | skip
    all_goals
      rcases a with ⟨rfl, rfl⟩ | ⟨rfl, rfl, a⟩ | ⟨rfl, rfl, a, a'⟩
      all_goals first | (exact absurd ht (by decide)) | skip
      all_goals
        rcases b with ⟨b1, rfl⟩ | ⟨b1, rfl, b⟩ | ⟨b1, rfl, b, b'⟩
        all_goals first | (exact absurd b1 (by decide)) | skip
    · exact rreckon3 _ _ _ _ _ _ hn hn2 w
    · by_cases h0 : n2 = 0
      · have e : rk 4 1 n ⟨#[]⟩ n2 ⟨#[]⟩ = errR 22 := by simp [rk, h0]
        rw [e]; exact rreckon45 _ _ _ _ _ _ 4 (Or.inl rfl) h0 w
      · have e : rk 4 1 n ⟨#[]⟩ n2 ⟨#[]⟩ = numR (n.tdiv n2) := by simp [rk, h0]
        rw [e]; exact rreckon4 _ _ _ _ _ _ hn hn2 (by simpa using h0) w
    · by_cases h0 : n2 = 0
      · have e : rk 5 1 n ⟨#[]⟩ n2 ⟨#[]⟩ = errR 22 := by simp [rk, h0]
        rw [e]; exact rreckon45 _ _ _ _ _ _ 5 (Or.inr rfl) h0 w
      · have e : rk 5 1 n ⟨#[]⟩ n2 ⟨#[]⟩ = ⟨1, n.tmod n2, ⟨#[]⟩, 0⟩ := by simp [rk, h0]
        rw [e]; exact rreckon5 _ _ _ _ _ _ hn (by simpa using h0) w
    · exact rreckon6 _ _ _ _ _ hn hn2 w
    · exact rreckon6s _ _ (by decide) _ _ _ _ a' b' w
    · exact rreckon7 _ _ _ _ _ _ hn hn2 w
    · exact rreckonCn 8 (by decide) _ _ _ _ _ _ (by decide) (by decide) w
    · exact rreckonCs 8 (by decide) _ _ _ _ (by unfold maxLen; omega) (by unfold maxLen; omega) w
    · exact rreckonCn 9 (by decide) _ _ _ _ _ _ (by decide) (by decide) w
    · exact rreckonCs 9 (by decide) _ _ _ _ (by unfold maxLen; omega) (by unfold maxLen; omega) w
    · exact rreckonCn 10 (by decide) _ _ _ _ _ _ (by decide) (by decide) w
    · exact rreckonCs 10 (by decide) _ _ _ _ (by unfold maxLen; omega) (by unfold maxLen; omega) w
    · exact rreckonCn 11 (by decide) _ _ _ _ _ _ (by decide) (by decide) w
    · exact rreckonCs 11 (by decide) _ _ _ _ (by unfold maxLen; omega) (by unfold maxLen; omega) w
    · exact rreckonE 12 (by decide) _ _ _ _ _ w
    · exact rreckonE 12 (by decide) _ _ _ _ _ w
    · exact rreckonE 12 (by decide) _ _ _ _ _ w
    · exact rreckonE 13 (by decide) _ _ _ _ _ w
    · exact rreckonE 13 (by decide) _ _ _ _ _ w
    · exact rreckonE 13 (by decide) _ _ _ _ _ w
    · exact rreckonL 14 (by decide) n n2 a b _ _ _ _ w
    · exact rreckonL 15 (by decide) n n2 a b _ _ _ _ w
  · have ho' : op = 1 ∨ op = 2 := by simpa [aloneB] using ho
    rcases ho' with rfl | rfl
    all_goals
      rcases a with ⟨rfl, rfl⟩ | ⟨rfl, rfl, a⟩ | ⟨rfl, rfl, a, a'⟩
      all_goals first | (exact absurd ht (by decide)) | skip
    · exact rreckon1 _ _ _ _ _ _ w
    · exact rreckon2 _ _ _ _ _ _ hn w
end Go.Proofs.YtlekmpjmcbnjdaaGreatDoor

