/- Plain: a number's own digits are read back as the number. No program. -/
import Derived.Test.YtphdnfijefddlaaDoorNum
import Derived.Lib.ParseIntB
import Derived.Lib.ItoaNum
namespace Go.Proofs.YtphdnfijefddlaaDoor
open Go.Lib
theorem parse_append (M : Nat) : ∀ (l r : List UInt8) (acc v : Nat), parseUintM M acc l = .ok v → parseUintM M acc (l ++ r) = parseUintM M v r
  | [], r, acc, v, h => by
    simp only [parseUintM] at h
    cases h; rfl
  | c :: l, r, acc, v, h => by
    rw [List.cons_append]
    rw [parseUintM] at h
    rw [parseUintM]
    by_cases h1 : 48 ≤ c.toNat ∧ c.toNat ≤ 57
    · rw [if_pos h1] at h ⊢
      by_cases h2 : 1844674407370955162 ≤ acc
      · rw [if_pos h2] at h; cases h
      · rw [if_neg h2] at h ⊢
        by_cases h3 : M < acc * 10 + (c.toNat - 48)
        · rw [if_pos h3] at h; cases h
        · rw [if_neg h3] at h ⊢
          exact parse_append M l r _ v h
    · rw [if_neg h1] at h; cases h
theorem parse_one (acc d : Nat) (hd : d < 10) (h : acc * 10 + d ≤ 18446744073709551615) : parseUintM 18446744073709551615 acc [UInt8.ofNat (48 + d)] = .ok (acc * 10 + d) := by
  have hc : (UInt8.ofNat (48 + d)).toNat = 48 + d := by
    rw [UInt8.toNat_ofNat']; exact Nat.mod_eq_of_lt (by omega)
  unfold parseUintM
  rw [hc, if_pos (by omega), if_neg (by omega), if_neg (by omega)]
  show NumEnd.ok (acc * 10 + (48 + d - 48)) = _
  congr 1; omega
theorem parse_digits (u : Nat) (h : u ≤ 18446744073709551615) : parseUintM 18446744073709551615 0 (decDigits u) = .ok u := by
  induction u using Nat.strongRecOn with
  | _ u ih =>
    by_cases hu : u < 10
    · rw [decDigits, dif_pos hu, parse_one 0 u hu (by omega)]
      congr 1; omega
    · rw [decDigits, dif_neg hu, parse_append _ _ _ _ _ (ih (u / 10) (by omega) (by omega)), parse_one _ _ (by omega) (by omega)]
      congr 1; omega
theorem digits_head (u : Nat) : ∃ c r, decDigits u = c :: r ∧ 48 ≤ c.toNat ∧ c.toNat ≤ 57 := by
  induction u using Nat.strongRecOn with
  | _ u ih =>
    by_cases hu : u < 10
    · refine ⟨UInt8.ofNat (48 + u), [], by rw [decDigits, dif_pos hu], ?_⟩
      have hc : (UInt8.ofNat (48 + u)).toNat = 48 + u := by
        rw [UInt8.toNat_ofNat']; exact Nat.mod_eq_of_lt (by omega)
      omega
    · obtain ⟨c, r, he, h1, h2⟩ := ih (u / 10) (by omega)
      exact ⟨c, r ++ [UInt8.ofNat (48 + u % 10)], by rw [decDigits, dif_neg hu, he, List.cons_append], h1, h2⟩
theorem parseUintB_digits (u : Nat) (h : u ≤ 18446744073709551615) : parseUintB 64 (decDigits u) = .ok u := by
  obtain ⟨c, r, he, _⟩ := digits_head u
  unfold parseUintB
  rw [if_neg (by rw [he]; exact List.cons_ne_nil _ _)]
  exact parse_digits u h
theorem parse_itoa (n : Int) (h : I64 n) : parseIntB 64 (itoa n) = .ok n := by
  have h1 := h.1
  have h2 := h.2
  by_cases hn : n < 0
  · have hd := parseUintB_digits n.natAbs (by omega)
    have h3 : ¬ 9223372036854775808 < n.natAbs := by omega
    have h4 : -(n.natAbs : Int) = n := by omega
    simp [itoa, hn, parseIntB, hd, h3, h4]
  · obtain ⟨c, r, he, hc1, hc2⟩ := digits_head n.toNat
    have hd := parseUintB_digits n.toNat (by omega)
    have h3 : ¬ 9223372036854775808 ≤ n.toNat := by omega
    have h4 : (n.toNat : Int) = n := by omega
    have h5 : ¬ c.toNat = 45 := by omega
    have h6 : ¬ (c.toNat = 43 ∨ c.toNat = 45) := by omega
    rw [he] at hd
    rw [itoa, if_neg hn, he, parseIntB]
    simp only [h5, or_false, not_false_eq_true, true_and, false_and, if_false]
    rw [if_neg (by omega : ¬ c.toNat = 43), hd]
    show (if 9223372036854775808 ≤ n.toNat then NumEnd.range else NumEnd.ok (n.toNat : Int)) = _
    rw [if_neg h3, h4]
end Go.Proofs.YtphdnfijefddlaaDoor

