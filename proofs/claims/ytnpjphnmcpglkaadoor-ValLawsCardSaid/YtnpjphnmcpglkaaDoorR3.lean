import Derived.Test.YtnpjphnmcpglkaaDoorR1
import Derived.Test.YtnpjphnmcpglkaaDoorAN
import Derived.Test.YtnpjphnmcpglkaaDoorH
import Derived.WalkKit
import Derived.ProofKit
import Derived.OpenShut
import Derived.Handy
import Derived.BigQuiet
import Derived.Lib.Hide
import Derived.Deep.DeepCutAuto
import Derived.Lib.Strings
import Derived.WalkLawsBesides
namespace Go.Proofs.YtnpjphnmcpglkaaDoor
open Go.RowKit
/-- A truth, as it is told. -/
def trV (b : Bool) : Value := .tuple #[.agg #[.int .i64 2, .int .i64 (bI b), .string ⟨#[]⟩], .int .i64 0]
theorem tr_rk (b : Bool) : rkV (trR b) = trV b := rfl
theorem trV_t : trV true = .tuple #[.agg #[.int .i64 2, .int .i64 1, .string ⟨#[]⟩], .int .i64 0] := rfl
theorem trV_f : trV false = .tuple #[.agg #[.int .i64 2, .int .i64 0, .string ⟨#[]⟩], .int .i64 0] := rfl
theorem resB_ord (op k : Int) (ho : op = 8 ∨ op = 10) (hk : k = 1 ∨ k = 3) : resB op k k = true := by
  rcases ho with rfl | rfl <;> rcases hk with rfl | rfl <;> decide
theorem kind_of_right (k n : Int) (s : ByteArray) (h : rightB k n s = true) : k = 1 ∨ k = 2 ∨ k = 3 := by
  rcases right_cases k n s h with ⟨rfl, _⟩ | ⟨rfl, _⟩ | ⟨rfl, _⟩ <;> simp
theorem lessV_any (k n : Int) (s : ByteArray) (n2 : Int) (s2 : ByteArray) (ha : rightB k n s = true) (hb : rightB k n2 s2 = true) (hk : k ≠ 2) (hn : I64 n) (hn2 : I64 n2) (g : Nat) (w : World) (hg : g < w.heap.size) (c0 : w.cell? ⟨g, 0, none⟩ = some (.int .i64 k)) (c1 : w.cell? ⟨g, 1, none⟩ = some (.int .i64 n2)) (c2 : w.cell? ⟨g, 2, none⟩ = some (.string s2)) :
    Calls Tryd.prog 12 #[.int .i64 8, .agg #[.int .i64 k, .int .i64 n, .string s], .slice (some ⟨g, 0, none⟩) 1 1] w (Ret (trV (lessB k n s n2 s2)) w) :=
  reckon2_any 8 k n s k n2 s2 ha hb hn hn2 (by decide) (resB_ord 8 k (by simp) (by have := kind_of_right k n s ha; omega)) g w hg c0 c1 c2
theorem moreV_any (k n : Int) (s : ByteArray) (n2 : Int) (s2 : ByteArray) (ha : rightB k n s = true) (hb : rightB k n2 s2 = true) (hk : k ≠ 2) (hn : I64 n) (hn2 : I64 n2) (g : Nat) (w : World) (hg : g < w.heap.size) (c0 : w.cell? ⟨g, 0, none⟩ = some (.int .i64 k)) (c1 : w.cell? ⟨g, 1, none⟩ = some (.int .i64 n2)) (c2 : w.cell? ⟨g, 2, none⟩ = some (.string s2)) :
    Calls Tryd.prog 12 #[.int .i64 10, .agg #[.int .i64 k, .int .i64 n, .string s], .slice (some ⟨g, 0, none⟩) 1 1] w (Ret (trV (lessB k n2 s2 n s)) w) :=
  reckon2_any 10 k n s k n2 s2 ha hb hn hn2 (by decide) (resB_ord 10 k (by simp) (by have := kind_of_right k n s ha; omega)) g w hg c0 c1 c2
theorem sameV_any (k n : Int) (s : ByteArray) (n2 : Int) (s2 : ByteArray) (ha : rightB k n s = true) (hb : rightB k n2 s2 = true) (hn : I64 n) (hn2 : I64 n2) (g : Nat) (w : World) (hg : g < w.heap.size) (c0 : w.cell? ⟨g, 0, none⟩ = some (.int .i64 k)) (c1 : w.cell? ⟨g, 1, none⟩ = some (.int .i64 n2)) (c2 : w.cell? ⟨g, 2, none⟩ = some (.string s2)) :
    Calls Tryd.prog 12 #[.int .i64 12, .agg #[.int .i64 k, .int .i64 n, .string s], .slice (some ⟨g, 0, none⟩) 1 1] w (Ret (trV (eqB n s n2 s2)) w) :=
  reckon2_any 12 k n s k n2 s2 ha hb hn hn2 (by decide) (by rcases kind_of_right k n s ha with rfl | rfl | rfl <;> decide) g w hg c0 c1 c2
/-- What is less than a lesser one is less. -/
theorem bless_trans : ∀ x y z : List UInt8, Op.bytesLess x y = true → Op.bytesLess y z = true → Op.bytesLess x z = true
  | _, _, [], _, h => by simp [Op.bytesLess] at h
  | _, [], _ :: _, h, _ => by simp [Op.bytesLess] at h
  | [], _ :: _, _ :: _, _, _ => rfl
  | a :: x, b :: y, c :: z, h, k => by
    rw [bless_cons] at h k ⊢
    simp only [Bool.or_eq_true, Bool.and_eq_true, decide_eq_true_eq, beq_iff_eq] at h k ⊢
    rcases h with h | ⟨rfl, h⟩
    · rcases k with k | ⟨rfl, k⟩
      · exact Or.inl (UInt8.lt_trans h k)
      · exact Or.inl h
    · rcases k with k | ⟨rfl, k⟩
      · exact Or.inl k
      · exact Or.inr ⟨rfl, bless_trans x y z h k⟩
theorem less_trans (k n : Int) (s : ByteArray) (n2 : Int) (s2 : ByteArray) (n3 : Int) (s3 : ByteArray) (h : lessB k n s n2 s2 = true) (h2 : lessB k n2 s2 n3 s3 = true) : lessB k n s n3 s3 = true := by
  unfold lessB at *
  by_cases hk : k = 3
  · rw [if_pos hk] at *; exact bless_trans _ _ _ h h2
  · rw [if_neg hk] at *
    simp only [decide_eq_true_eq] at *; omega
/-- Of two that can be ordered just one is less, or they are the same. -/
theorem less_tri (k n : Int) (s : ByteArray) (n2 : Int) (s2 : ByteArray) (ha : rightB k n s = true) (hb : rightB k n2 s2 = true) (hk : k ≠ 2) : lessB k n2 s2 n s = (!(lessB k n s n2 s2) && !(eqB n s n2 s2)) := by
  rcases right_cases k n s ha with ⟨rfl, rfl⟩ | ⟨rfl, _⟩ | ⟨rfl, rfl, _⟩
  · rcases right_cases 1 n2 s2 hb with ⟨_, rfl⟩ | ⟨h, _⟩ | ⟨h, _⟩
    · simp only [lessB, eqB, beq_self_eq_true, Bool.and_true]
      rcases Int.lt_trichotomy n n2 with h | h | h
      · have h2 : ¬ n2 < n := by omega
        simp [h, h2]
      · subst h; simp
      · have h2 : ¬ n < n2 := by omega
        have h3 : ¬ n = n2 := by omega
        simp [h, h2, h3]
    · omega
    · omega
  · omega
  · rcases right_cases 3 n2 s2 hb with ⟨h, _⟩ | ⟨h, _⟩ | ⟨_, rfl, _⟩
    · omega
    · omega
    · simp only [lessB, eqB, beq_self_eq_true, Bool.true_and, if_true]
      rw [bless_tri s.data.toList s2.data.toList, Lib.toList_data s, Lib.toList_data s2]
theorem eqB_symm (n : Int) (s : ByteArray) (n2 : Int) (s2 : ByteArray) : eqB n s n2 s2 = eqB n2 s2 n s := by
  rw [Bool.eq_iff_iff]; simp only [eqB, Bool.and_eq_true, beq_iff_eq]
  constructor <;> (rintro ⟨h, k⟩; exact ⟨h.symm, k.symm⟩)
theorem less_ne (k n : Int) (s : ByteArray) (n2 : Int) (s2 : ByteArray) (ha : rightB k n s = true) (hb : rightB k n2 s2 = true) (hk : k ≠ 2) (h : lessB k n s n2 s2 = true) : eqB n s n2 s2 = false := by
  have := less_tri k n2 s2 n s hb ha hk
  rw [h] at this
  rw [eqB_symm]
  simp only [Bool.true_eq, Bool.and_eq_true, Bool.not_eq_true'] at this
  exact this.2
end Go.Proofs.YtnpjphnmcpglkaaDoor
