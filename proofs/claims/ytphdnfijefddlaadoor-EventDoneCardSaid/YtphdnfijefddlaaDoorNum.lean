/- Plain arithmetic: when the wrapped sum, difference, product and quotient of two numbers of 64 bits are the true ones. No program. -/
import Derived.WalkKit
namespace Go.Proofs.YtphdnfijefddlaaDoor
open Go.RowKit

/-- A number of 64 bits. -/
def I64 (x : Int) : Prop := -9223372036854775808 ≤ x ∧ x ≤ 9223372036854775807
def inR (x : Int) : Bool := decide (-9223372036854775808 ≤ x) && decide (x ≤ 9223372036854775807)
theorem inR_iff (x : Int) : inR x = true ↔ I64 x := by simp [inR, I64]
theorem inR_not (x : Int) : inR x = false ↔ ¬ I64 x := by rw [← inR_iff]; simp
theorem wrap_of (x : Int) (h : I64 x) : wrap64 x = x := by unfold wrap64; unfold I64 at h; omega
theorem wrap_I64 (x : Int) : I64 (wrap64 x) := by unfold wrap64 I64; omega
theorem wrap_mod (x : Int) : ∃ k : Int, wrap64 x = x - 18446744073709551616 * k := ⟨(x + 9223372036854775808) / 18446744073709551616, by unfold wrap64; omega⟩

theorem plusB (a b : Int) (ha : I64 a) (hb : I64 b) : (decide (a < wrap64 (a + b)) == decide (0 < b)) = inR (a + b) := by
  rw [Bool.eq_iff_iff, inR_iff, beq_iff_eq, decide_eq_decide]
  unfold wrap64 I64 at *; omega
theorem minusB (a b : Int) (ha : I64 a) (hb : I64 b) : (decide (wrap64 (a - b) < a) == decide (0 < b)) = inR (a - b) := by
  rw [Bool.eq_iff_iff, inR_iff, beq_iff_eq, decide_eq_decide]
  unfold wrap64 I64 at *; omega

/-- What a product's size says. -/
theorem tdiv_mul (n b : Int) (hb : b ≠ 0) : ∃ r, n = n.tdiv b * b + r ∧ r.natAbs < b.natAbs ∧ (0 ≤ n → 0 ≤ r) ∧ (n ≤ 0 → r ≤ 0) := by
  refine ⟨n.tmod b, ?_, ?_, ?_, ?_⟩
  · have := Int.tdiv_mul_add_tmod n b; omega
  · rw [Int.natAbs_tmod]; exact Nat.mod_lt _ (by omega)
  · exact fun h => Int.tmod_nonneg b h
  · intro h
    have h1 := Int.tmod_nonneg b (a := -n) (by omega)
    rw [Int.neg_tmod] at h1; omega

theorem tdiv_I64 (a b : Int) (ha : I64 a) (hb : b ≠ 0) (h : ¬ (a = -9223372036854775808 ∧ b = -1)) : I64 (a.tdiv b) := by
  have hn : (a.tdiv b).natAbs = a.natAbs / b.natAbs := Int.natAbs_tdiv a b
  have h1 : a.natAbs / b.natAbs ≤ a.natAbs := Nat.div_le_self _ _
  unfold I64 at *
  by_cases hm : a = -9223372036854775808
  · have hb2 : b ≠ -1 := fun e => h ⟨hm, e⟩
    by_cases hb1 : b = 1
    · subst hb1; rw [Int.tdiv_one]; omega
    · have : 2 ≤ b.natAbs := by omega
      have h2 : a.natAbs / b.natAbs ≤ a.natAbs / 2 := Nat.div_le_div_left this (by omega)
      omega
  · omega
theorem quoB (a b : Int) (ha : I64 a) (hb : I64 b) (h0 : b ≠ 0) : (!(decide (a < 0) && decide (b < 0) && decide (wrap64 (a.tdiv b) < 0))) = inR (a.tdiv b) := by
  by_cases h : a = -9223372036854775808 ∧ b = -1
  · obtain ⟨rfl, rfl⟩ := h; decide +kernel
  · have hi := tdiv_I64 a b ha h0 h
    rw [wrap_of _ hi, (inR_iff _).2 hi]
    by_cases h1 : a < 0 <;> by_cases h2 : b < 0 <;> simp [h1, h2]
    have : 0 ≤ (-a).tdiv (-b) := Int.tdiv_nonneg (by omega) (by omega)
    rw [Int.neg_tdiv, Int.tdiv_neg] at this; omega

theorem sgn_mul (a b : Int) (ha : a ≠ 0) (hb : b ≠ 0) : a * b < 0 ↔ (decide (a < 0) != decide (b < 0)) = true := by
  rcases Int.lt_or_gt_of_ne ha with h | h <;> rcases Int.lt_or_gt_of_ne hb with k | k
  · have := Int.mul_pos_of_neg_of_neg h k; simp [h, k]; omega
  · have := Int.mul_neg_of_neg_of_pos h k; have k' : ¬ b < 0 := by omega
    simp [h, k']; omega
  · have := Int.mul_neg_of_pos_of_neg h k; have k' : ¬ a < 0 := by omega
    simp [k', k]; omega
  · have := Int.mul_pos h k; have k' : ¬ a < 0 := by omega
    have k'' : ¬ b < 0 := by omega
    simp [k', k'']; omega

theorem timesB (a b : Int) (ha : I64 a) (hb : I64 b) (ha0 : a ≠ 0) (hb0 : b ≠ 0) :
    ((wrap64 ((wrap64 (a * b)).tdiv b) == a) && (decide (wrap64 (a * b) < 0) == (decide (a < 0) != decide (b < 0)))) = inR (a * b) := by
  have hs := sgn_mul a b ha0 hb0
  have hp : a * b ≠ 0 := Int.mul_ne_zero ha0 hb0
  by_cases h : I64 (a * b)
  · rw [wrap_of _ h, Int.mul_tdiv_cancel _ hb0, wrap_of _ ha, (inR_iff _).2 h]
    simp only [beq_self_eq_true, Bool.true_and]
    by_cases h1 : a * b < 0
    · rw [hs.1 h1]; simp [h1]
    · have : (decide (a < 0) != decide (b < 0)) = false := by
        rw [← Bool.not_eq_true]; exact fun e => h1 (hs.2 e)
      rw [this]; simp [h1]
  · rw [(inR_not _).2 h]
    have hn := wrap_I64 (a * b)
    obtain ⟨k, hk⟩ := wrap_mod (a * b)
    generalize hq : wrap64 (a * b) = n at *
    rw [Bool.and_eq_false_iff]
    by_cases hm : n = -9223372036854775808 ∧ b = -1
    · obtain ⟨rfl, rfl⟩ := hm
      by_cases e : a = -9223372036854775808
      · right; subst e; decide +kernel
      · left
        have : wrap64 (Int.tdiv (-9223372036854775808) (-1)) = -9223372036854775808 := by decide +kernel
        rw [this]; simp; omega
    · have hi := tdiv_I64 n b hn hb0 hm
      rw [wrap_of _ hi]
      by_cases e : n.tdiv b = a
      · right
        obtain ⟨r, h1, h2, h3, h4⟩ := tdiv_mul n b hb0
        rw [e] at h1
        generalize a * b = p at *
        by_cases hs' : (decide (a < 0) != decide (b < 0)) = true
        · rw [hs']; have : p < 0 := hs.2 hs'
          unfold I64 at *
          by_cases hn0 : n < 0
          · exfalso; have := h4 (by omega); omega
          · simp [hn0]
        · have h5 : ¬ p < 0 := fun x => hs' (hs.1 x)
          have h6 : (decide (a < 0) != decide (b < 0)) = false := by simpa using hs'
          rw [h6]
          unfold I64 at *
          by_cases hn0 : n < 0
          · simp [hn0]
          · exfalso; have := h3 (by omega); omega
      · left; simpa using e
end Go.Proofs.YtphdnfijefddlaaDoor

