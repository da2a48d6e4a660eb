/- Plain: what the reference's scanner keeps while it goes. No program. -/
import Derived.Test.YtphdnfijefddlaaDoorT2
import Derived.Test.YtphdnfijefddlaaDoorDG
namespace Go.Proofs.YtphdnfijefddlaaDoor
open Go.Lib
def innL : List UInt8 → Bool
  | [] => false
  | c :: _ => innB c
theorem inn_dot {c : UInt8} (h : innB c = true) : ((c.toNat : Int) == 46) = false := by
  rw [beq_eq_false_iff_ne]
  simp only [innB, letB, digB, Bool.or_eq_true, Bool.and_eq_true, decide_eq_true_eq, beq_iff_eq] at h
  omega
/-- A word's bytes, taken off. -/
theorem inner_off : ∀ (r : List UInt8) (n : Nat), spanL wordL r = spanL innL r + spanL wordL (r.drop (spanL innL r)) ∧
    longL n (r.take (spanL wordL r)) = longL (n + spanL innL r) ((r.drop (spanL innL r)).take (spanL wordL (r.drop (spanL innL r)))) ∧
    dotL (r.take (spanL wordL r)) = dotL ((r.drop (spanL innL r)).take (spanL wordL (r.drop (spanL innL r)))) ∧ innL (r.drop (spanL innL r)) = false
  | [], n => ⟨rfl, rfl, rfl, rfl⟩
  | c :: r, n => by
    cases h : innB c
    · rw [span_no (p := innL) h]
      exact ⟨by rw [Nat.zero_add, List.drop_zero], by rw [Nat.add_zero, List.drop_zero], by rw [List.drop_zero], h⟩
    · have hw : wordL (c :: r) = true := by rw [wordL, h, Bool.true_or]
      have hd := inn_dot h
      obtain ⟨i1, i2, i3, i4⟩ := inner_off r (n + 1)
      rw [span_yes (p := innL) h, span_yes hw, List.drop_succ_cons, List.take_succ_cons]
      refine ⟨by omega, ?_, ?_, i4⟩
      · rw [longL, hd, if_neg (by decide), i2]
        congr 1; omega
      · rw [← i3]
        show ((((c.toNat : Int) == 46)) || _) = _
        rw [hd, Bool.false_or]
        rfl
theorem dot_off (c : UInt8) (r : List UInt8) (n : Nat) (hc : ((c.toNat : Int) == 46) = true) (hr : headL r = true) : spanL wordL (c :: r) = spanL wordL r + 1 ∧
    longL n ((c :: r).take (spanL wordL (c :: r))) = (decide (16 < n) || longL 0 (r.take (spanL wordL r))) ∧ dotL ((c :: r).take (spanL wordL (c :: r))) = true := by
  have hw : wordL (c :: r) = true := by rw [wordL, hc, hr]; simp
  rw [span_yes hw, List.take_succ_cons]
  refine ⟨rfl, ?_, ?_⟩
  · rw [longL, hc, if_pos rfl]
  · show ((((c.toNat : Int) == 46)) || _) = _
    rw [hc, Bool.true_or]
theorem word_stop (r : List UInt8) (hi : innL r = false) (h : ∀ c q, r = c :: q → (((c.toNat : Int) == 46) && headL q) = false) : spanL wordL r = 0 := by
  cases r with
  | nil => rfl
  | cons c q =>
    have hw : wordL (c :: q) = false := by
      have : innB c = false := hi
      rw [wordL, this, h c q rfl]; rfl
    exact span_no hw
theorem long_stop (r : List UInt8) (n : Nat) (hi : innL r = false) (hn : 16 < n) : longL n (r.take (spanL wordL r)) = true := by
  cases r with
  | nil => simpa [spanL, longL] using hn
  | cons c q =>
    have hin : innB c = false := hi
    cases hd : ((c.toNat : Int) == 46)
    · have hw : wordL (c :: q) = false := by rw [wordL, hin, hd]; rfl
      rw [span_no hw]
      simpa [longL] using hn
    · cases hh : headL q
      · have hw : wordL (c :: q) = false := by rw [wordL, hin, hd, hh]; rfl
        rw [span_no hw]
        simpa [longL] using hn
      · rw [(dot_off c q n hd hh).2.1]
        simp [hn]
/-- Where the reference stands in a word, or path: n bytes of the part are behind it, j bytes in all, d: there was a dot. -/
def PathAt (l : List UInt8) (n j : Nat) (d : Bool) : Prop := spanL wordL l = j + spanL wordL (l.drop j) ∧ innL (l.drop j) = false ∧
  longL 0 (l.take (spanL wordL l)) = longL n ((l.drop j).take (spanL wordL (l.drop j))) ∧ dotL (l.take (spanL wordL l)) = (d || dotL ((l.drop j).take (spanL wordL (l.drop j))))
theorem pathAt_first (l : List UInt8) : PathAt l (spanL innL l) (spanL innL l) false := by
  obtain ⟨i1, i2, i3, i4⟩ := inner_off l 0
  refine ⟨i1, i4, ?_, ?_⟩
  · rw [i2, Nat.zero_add]
  · rw [i3, Bool.false_or]
theorem pathAt_next {l : List UInt8} {n j : Nat} {d : Bool} (h : PathAt l n j d) (hn : n ≤ 16) {c : UInt8} {r : List UInt8} (hl : l.drop j = c :: r) (hc : ((c.toNat : Int) == 46) = true) (hr : headL r = true) :
    PathAt l (spanL innL r) (j + 1 + spanL innL r) true := by
  obtain ⟨h1, h2, h3, h4⟩ := h
  rw [hl] at h1 h2 h3 h4
  obtain ⟨d1, d2, d3⟩ := dot_off c r n hc hr
  obtain ⟨i1, i2, i3, i4⟩ := inner_off r 0
  have e : l.drop (j + 1 + spanL innL r) = r.drop (spanL innL r) := by
    rw [← List.drop_drop, ← List.drop_drop, hl, List.drop_succ_cons, List.drop_zero]
  have hn' : decide (16 < n) = false := by rw [decide_eq_false_iff_not]; omega
  refine ⟨?_, by rw [e]; exact i4, ?_, ?_⟩
  · rw [e]; omega
  · rw [h3, d2, hn', Bool.false_or, i2, Nat.zero_add, e]
  · rw [h4, d3]; simp
/-- The answer where it stops. -/
theorem pathAt_stop {l : List UInt8} {n j : Nat} {d : Bool} (h : PathAt l n j d) (hj : j ≤ l.length) (hn : n ≤ 16) (hs : ∀ c q, l.drop j = c :: q → (((c.toNat : Int) == 46) && headL q) = false) :
    spanL wordL l = j ∧ wordT l = if 32 < j then .error 15 else .ok (if d then 2 else 1, l.take j, 0, j) := by
  obtain ⟨h1, h2, h3, h4⟩ := h
  have h0 := word_stop _ h2 hs
  rw [h0] at h1 h3 h4
  rw [Nat.add_zero] at h1
  rw [h1] at h3 h4
  have hn' : decide (16 < n) = false := by rw [decide_eq_false_iff_not]; omega
  have e3 : longL 0 (l.take j) = false := by rw [h3]; exact hn'
  have e4 : dotL (l.take j) = d := by rw [h4]; simp [dotL]
  refine ⟨h1, ?_⟩
  unfold wordT
  simp only [h1, e3, e4, Bool.or_false, List.length_take, Nat.min_eq_left hj, decide_eq_true_eq]
theorem pathAt_long {l : List UInt8} {n j : Nat} {d : Bool} (h : PathAt l n j d) (hn : 16 < n) : wordT l = .error 15 := by
  obtain ⟨h1, h2, h3, h4⟩ := h
  have h0 := long_stop _ n h2 hn
  rw [h0] at h3
  unfold wordT
  simp only [h3, Bool.or_true, if_true]
theorem valF_snoc (l : List UInt8) (c : UInt8) (a : Nat) : valF a (l ++ [c]) = valF a l * 10 + (c.toNat - 48) := by simp [valF]
theorem valL_eq (l : List UInt8) : valL l = valF 0 l := rfl
theorem dig_of (d : Nat) (hd : d < 10) : (UInt8.ofNat (48 + d)).toNat = 48 + d := by
  rw [UInt8.toNat_ofNat']; exact Nat.mod_eq_of_lt (by omega)
theorem val_dec (u : Nat) : valL (decDigits u) = u := by
  induction u using Nat.strongRecOn with
  | _ u ih =>
    by_cases hu : u < 10
    · rw [decDigits, dif_pos hu]
      show 0 * 10 + ((UInt8.ofNat (48 + u)).toNat - 48) = u
      rw [dig_of u hu]; omega
    · rw [decDigits, dif_neg hu, valL_eq, valF_snoc, dig_of _ (by omega), ← valL_eq, ih (u / 10) (by omega)]
      omega
theorem dec_val : ∀ (k : Nat) (l : List UInt8), l.length = k → l ≠ [] → (∀ c ∈ l, digB c = true) → (l.length = 1 ∨ ∀ c r, l = c :: r → c.toNat ≠ 48) → decDigits (valL l) = l
  | 0, l, hk, hne, _, _ => absurd (List.eq_nil_of_length_eq_zero hk) hne
  | k + 1, l, hk, hne, hd, hz => by
    obtain ⟨m, c, rfl⟩ : ∃ m c, l = m ++ [c] := ⟨l.dropLast, l.getLast hne, (List.dropLast_concat_getLast hne).symm⟩
    have hc := dig_nat (hd c (by simp))
    have ec : UInt8.ofNat (48 + (c.toNat - 48)) = c := by
      rw [show 48 + (c.toNat - 48) = c.toNat by omega]; simp
    rw [valL_eq, valF_snoc, ← valL_eq]
    cases m with
    | nil =>
      have e : valL ([] : List UInt8) = 0 := rfl
      rw [e, Nat.zero_mul, Nat.zero_add, decDigits, dif_pos (by omega), ec]
      rfl
    | cons x m =>
      have hx : x.toNat ≠ 48 := by
        rcases hz with hz | hz
        · simp at hz
        · exact hz x (m ++ [c]) rfl
      have hxd := dig_nat (hd x (by simp))
      have hv : 1 ≤ valL (x :: m) := by
        have := valF_ge m (0 * 10 + (x.toNat - 48))
        show 1 ≤ valF (0 * 10 + (x.toNat - 48)) m
        omega
      have ih := dec_val k (x :: m) (by simpa using hk) (by simp) (fun d h => hd d (by simp at h ⊢; rcases h with h | h <;> simp [h])) (.inr fun c r h => by
        simp only [List.cons.injEq] at h
        rw [← h.1]; exact hx)
      rw [decDigits, dif_neg (by omega), show (valL (x :: m) * 10 + (c.toNat - 48)) / 10 = valL (x :: m) by omega, ih, show (valL (x :: m) * 10 + (c.toNat - 48)) % 10 = c.toNat - 48 by omega, ec]
end Go.Proofs.YtphdnfijefddlaaDoor

