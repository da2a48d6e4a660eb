/- Plain: a name has no dot; how many parts there are; the event of a state's end. No program. -/
import Derived.Test.YtphdnfijefddlaaDoorE1
import Derived.Test.YtphdnfijefddlaaDoorTN
namespace Go.Proofs.YtphdnfijefddlaaDoor
open Go.Lib
theorem tokT_name {l t : List UInt8} {n : Int} {z : Nat} (h : tokT l = .ok (1, t, n, z)) : dotL t = false := by
  cases l with
  | nil => cases h
  | cons c r =>
    rw [tokT] at h
    by_cases h1 : letB c = true
    · rw [if_pos h1, wordT] at h
      (try simp only at h)
      split at h
      · cases h
      · simp only [Except.ok.injEq, Prod.mk.injEq] at h
        obtain ⟨hk, rfl, _⟩ := h
        cases hd : dotL ((c :: r).take (spanL wordL (c :: r))) with
        | false => rfl
        | true => rw [hd] at hk; exact absurd hk (by decide)
    · rw [if_neg h1] at h
      by_cases h2 : digB c = true
      · rw [if_pos h2, numT] at h
        (try simp only at h)
        split at h
        · cases h
        · split at h <;> cases h
      · rw [if_neg h2] at h
        by_cases h3 : ((c.toNat : Int) == 39) = true
        · rw [if_pos h3, quoT] at h
          (try simp only at h)
          by_cases h4 : spanL textL r = r.length
          · rw [if_pos h4] at h; cases h
          · rw [if_neg h4] at h
            by_cases h5 : 48 < spanL textL r
            · rw [if_pos h5] at h; cases h
            · rw [if_neg h5] at h
              split at h <;> cases h
        · rw [if_neg h3, sgnT] at h
          split at h
          · cases h
          · split at h <;> cases h
theorem lexT_name {m a : Nat} {l : List UInt8} {t : Tk} (h : lexT m a l = .ok [t]) (hk : t.k = 1) : dotL t.s = false := by
  cases m with
  | zero =>
    rw [lexT] at h
    split at h <;> cases h
  | succ m =>
    rw [lexT] at h
    split at h
    · cases h
    · split at h
      · cases h
      · rename_i ht
        split at h
        · cases h
        · cases h
          obtain rfl := hk
          exact tokT_name ht
theorem name_dots {l : List UInt8} (h : nmB l = true) : ∀ x ∈ l, x ≠ 46 := by
  unfold nmB at h
  rw [Bool.and_eq_true, beq_iff_eq] at h
  have h1 := h.1
  unfold aloneK at h1
  split at h1
  · rename_i t ht
    split at h1
    · rename_i hs
      have := lexT_name ht h1
      rw [hs, dotL_eq] at this
      intro x hx e
      subst e
      rw [← Bool.not_eq_true, List.contains_iff_mem] at this
      exact this hx
    · cases h1
  · cases h1
theorem parts_len : ∀ l, (partsE l).length ≤ l.length + 1
  | [] => Nat.le_refl _
  | c :: r => by
    have ih := parts_len r
    rw [partsE]
    split
    · simp only [List.length_cons]; omega
    · cases hp : partsE r with
      | nil => simp
      | cons p ps =>
        rw [hp] at ih
        simp only [List.length_cons] at ih ⊢
        omega
theorem pieces_len (t : ByteArray) : (pieces t).length ≤ t.size + 1 := by
  have := congrArg List.length (pieces_parts t)
  rw [List.length_map] at this
  rw [this, Lib.size_eq]
  exact parts_len _
end Go.Proofs.YtphdnfijefddlaaDoor

