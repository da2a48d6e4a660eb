/- Plain: where a line's tokens stand. No program. -/
import Derived.Test.YtidbmampjjgkpaaDoorT4
import Derived.WalkKit
namespace Go.Proofs.YtidbmampjjgkpaaDoor
/-- A token as it stands in a line. -/
def fullT (k : Int) (s : List UInt8) : List UInt8 := if k = 4 then 39 :: (s ++ [39]) else s
def blankT (l : List UInt8) : Prop := ∀ c ∈ l, ((c.toNat : Int) == 32) = true
theorem word_full {l : List UInt8} {k : Int} {t : List UInt8} {n : Int} {z : Nat} (h : wordT l = .ok (k, t, n, z)) : (k = 1 ∨ k = 2) ∧ n = 0 ∧ l.take z = t ∧ z = t.length := by
  unfold wordT at h
  simp only at h
  split at h
  · cases h
  · simp only [Except.ok.injEq, Prod.mk.injEq] at h
    obtain ⟨rfl, rfl, rfl, rfl⟩ := h
    refine ⟨?_, rfl, ?_, rfl⟩
    · split <;> simp
    · rw [List.length_take, Nat.min_eq_left (spanL_le _ _)]
theorem num_full {l : List UInt8} {k : Int} {t : List UInt8} {n : Int} {z : Nat} (h : numT l = .ok (k, t, n, z)) : k = 3 ∧ l.take z = t ∧ z = t.length := by
  unfold numT at h
  simp only at h
  split at h
  · cases h
  · split at h
    · cases h
    · simp only [Except.ok.injEq, Prod.mk.injEq] at h
      obtain ⟨rfl, rfl, _, rfl⟩ := h
      refine ⟨rfl, ?_, rfl⟩
      rw [List.length_take, Nat.min_eq_left (spanL_le _ _)]
theorem span_text_at : ∀ (l : List UInt8), spanL textL l ≠ l.length → ∃ q, l.drop (spanL textL l) = 39 :: q
  | [], h => absurd rfl h
  | c :: r, h => by
    cases hc : ((c.toNat : Int) == 39)
    · have ht : textL (c :: r) = true := by show (!((c.toNat : Int) == 39)) = true; rw [hc]; rfl
      rw [span_yes ht, List.length_cons] at h
      rw [span_yes ht, List.drop_succ_cons]
      exact span_text_at r (by omega)
    · have ht : textL (c :: r) = false := by show (!((c.toNat : Int) == 39)) = false; rw [hc]; rfl
      rw [span_no ht, List.drop_zero]
      rw [quote_eq, beq_iff_eq] at hc
      exact ⟨r, by rw [hc]⟩
theorem quo_full {c : UInt8} {r : List UInt8} {k : Int} {t : List UInt8} {n : Int} {z : Nat} (hc : ((c.toNat : Int) == 39) = true) (h : quoT r = .ok (k, t, n, z)) : k = 4 ∧ n = 0 ∧ (c :: r).take z = 39 :: (t ++ [39]) ∧ z = t.length + 2 := by
  rw [quote_eq, beq_iff_eq] at hc
  subst hc
  have hs := spanL_le textL r
  unfold quoT at h
  simp only at h
  split at h
  · cases h
  · split at h
    · cases h
    · split at h
      · rename_i h1 _ _
        simp only [Except.ok.injEq, Prod.mk.injEq] at h
        obtain ⟨rfl, rfl, rfl, rfl⟩ := h
        obtain ⟨q, hq⟩ := span_text_at r h1
        refine ⟨rfl, rfl, ?_, ?_⟩
        · rw [show spanL textL r + 2 = (spanL textL r + 1) + 1 by omega, List.take_succ_cons, List.take_add, hq]
          rfl
        · rw [List.length_take, Nat.min_eq_left hs]
      · cases h
theorem sgn_full {c : UInt8} {r : List UInt8} {k : Int} {t : List UInt8} {n : Int} {z : Nat} (h : sgnT c r = .ok (k, t, n, z)) : k = 5 ∧ n = 0 ∧ (c :: r).take z = t ∧ z = t.length := by
  unfold sgnT at h
  split at h
  · rename_i h2
    simp only [Except.ok.injEq, Prod.mk.injEq] at h
    obtain ⟨rfl, rfl, rfl, rfl⟩ := h
    rw [Bool.and_eq_true] at h2
    refine ⟨rfl, rfl, ?_, rfl⟩
    cases r with
    | nil => cases h2.2
    | cons d q =>
      have : d = 61 := by
        have h3 : ((d.toNat : Int) == 61) = true := h2.2
        rw [show ((d.toNat : Int) == 61) = (d == 61) from byte_eq d 61 (by decide), beq_iff_eq] at h3
        exact h3
      subst this
      rfl
  · split at h
    · simp only [Except.ok.injEq, Prod.mk.injEq] at h
      obtain ⟨rfl, rfl, rfl, rfl⟩ := h
      exact ⟨rfl, rfl, rfl, rfl⟩
    · cases h
/-- What a token is, by its first byte. -/
theorem tok_full {l : List UInt8} {k : Int} {t : List UInt8} {n : Int} {z : Nat} (h : tokT l = .ok (k, t, n, z)) : l.take z = fullT k t ∧ z = (fullT k t).length := by
  cases l with
  | nil => cases h
  | cons c r =>
    rw [tokT] at h
    split at h
    · obtain ⟨hk, _, h1, h2⟩ := word_full h
      have : fullT k t = t := by unfold fullT; rw [if_neg (by omega)]
      rw [this]; exact ⟨h1, h2⟩
    · split at h
      · obtain ⟨rfl, h1, h2⟩ := num_full h
        exact ⟨h1, h2⟩
      · split at h
        · obtain ⟨rfl, _, h1, h2⟩ := quo_full ‹_› h
          refine ⟨h1, ?_⟩
          rw [h2]; simp [fullT]
        · obtain ⟨rfl, _, h1, h2⟩ := sgn_full h
          exact ⟨h1, h2⟩
/-- The tokens stand one behind the other, from p on, with nothing but blanks between. -/
def PlacesT (l : List UInt8) : Nat → List Tk → Prop
  | p, [] => blankT (l.drop p)
  | p, t :: r => p ≤ t.a ∧ blankT ((l.drop p).take (t.a - p)) ∧ (l.drop t.a).take (fullT t.k t.s).length = fullT t.k t.s ∧ t.a + (fullT t.k t.s).length ≤ l.length ∧ PlacesT l (t.a + (fullT t.k t.s).length) r
theorem blank_span : ∀ (l : List UInt8), blankT (l.take (spanL blankL l))
  | [] => fun c h => by simp at h
  | c :: r => by
    cases hc : ((c.toNat : Int) == 32)
    · rw [span_no (p := blankL) hc]
      intro c h; simp at h
    · rw [span_yes (p := blankL) hc, List.take_succ_cons]
      intro d h
      rcases List.mem_cons.1 h with rfl | h
      · exact hc
      · exact blank_span r d h
theorem places_lex (l : List UInt8) : ∀ (m p : Nat) (ts : List Tk), p ≤ l.length → lexT m p (l.drop p) = .ok ts → PlacesT l p ts
  | 0, p, ts, hp, h => by
    rw [lexT] at h
    split at h
    · rename_i hd
      cases h
      have := blank_span (l.drop p)
      rw [List.drop_eq_nil_iff] at hd
      rw [List.take_of_length_le hd] at this
      exact this
    · cases h
  | m + 1, p, ts, hp, h => by
    rw [lexT] at h
    split at h
    · rename_i hd
      cases h
      have := blank_span (l.drop p)
      rw [List.drop_eq_nil_iff] at hd
      rw [List.take_of_length_le hd] at this
      exact this
    · rename_i c r hd
      split at h
      · cases h
      · rename_i k t n z ht
        split at h
        · cases h
        · rename_i rest hr
          cases h
          obtain ⟨f1, f2⟩ := tok_full ht
          obtain ⟨l1, l2, _⟩ := tokT_len ht
          have hq : l.drop (p + spanL blankL (l.drop p)) = c :: r := by rw [← List.drop_drop]; exact hd
          have hl : (c :: r).length = l.length - (p + spanL blankL (l.drop p)) := by rw [← hq, List.length_drop]
          have hsp := spanL_le blankL (l.drop p)
          rw [List.length_drop] at hsp
          rw [← hq, List.drop_drop] at hr
          have ih := places_lex l m (p + spanL blankL (l.drop p) + z) rest (by omega) hr
          refine ⟨Nat.le_add_right _ _, ?_, ?_, ?_, ?_⟩
          · show blankT ((l.drop p).take (p + spanL blankL (l.drop p) - p))
            rw [Nat.add_sub_cancel_left]
            exact blank_span _
          · show (l.drop (p + spanL blankL (l.drop p))).take (fullT k t).length = fullT k t
            rw [hq, ← f2, f1]
          · show p + spanL blankL (l.drop p) + (fullT k t).length ≤ l.length
            rw [← f2]; omega
          · show PlacesT l (p + spanL blankL (l.drop p) + (fullT k t).length) rest
            rw [← f2]; exact ih
end Go.Proofs.YtidbmampjjgkpaaDoor
