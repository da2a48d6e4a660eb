/- Sets of numbers from 0 to 63, plain. No program. -/
import Derived.Lib.BitFns
import Derived.Lib.TrailingZeros
namespace Go.Proofs.YtniecghigmgbnaaDoor
/-- The set of one number. -/
def oneS (n : Int) : Nat := if 0 ≤ n ∧ n < 64 then 2 ^ n.toNat else 0
def ofS (s : Nat) : List Int → Nat
  | [] => s
  | n :: l => ofS (s ||| oneS n) l
def lessS (s t : Nat) : Nat := s ^^^ (s &&& t)
def unionS (s : Nat) : List Nat → Nat
  | [] => s
  | t :: l => unionS (s ||| t) l
def hasL (l : List Int) (n : Int) : Bool := l.any (· == n)
def numsF : Nat → Nat → Nat → List Nat
  | 0, _, _ => []
  | f + 1, n, s => if s % 2 = 1 then n :: numsF f (n + 1) (s / 2) else numsF f (n + 1) (s / 2)
/-- A set's numbers, rising. -/
def numsS (s : Nat) : List Nat := numsF 64 0 s
theorem oneS_bit (n : Int) (k : Nat) (hk : k < 64) : (oneS n).testBit k = (n == (k : Int)) := by
  unfold oneS
  split
  · rename_i h
    rw [Nat.testBit_two_pow]
    rw [Bool.eq_iff_iff]
    simp
    omega
  · rename_i h
    rw [Nat.zero_testBit]
    symm
    rw [beq_eq_false_iff_ne]
    omega
theorem oneS_lt (n : Int) : oneS n < 2 ^ 64 := by
  unfold oneS
  split
  · exact Nat.pow_lt_pow_right (by omega) (by omega)
  · omega
theorem ofS_lt : ∀ (l : List Int) (s : Nat), s < 2 ^ 64 → ofS s l < 2 ^ 64
  | [], _, h => h
  | n :: l, _, h => ofS_lt l _ (Nat.or_lt_two_pow h (oneS_lt n))
theorem lessS_lt {s : Nat} (t : Nat) (h : s < 2 ^ 64) : lessS s t < 2 ^ 64 := Nat.xor_lt_two_pow h (Nat.lt_of_le_of_lt Nat.and_le_left h)
theorem joinS_lt : ∀ (l : List Nat) (s : Nat), s < 2 ^ 64 → (∀ t ∈ l, t < 2 ^ 64) → unionS s l < 2 ^ 64
  | [], _, h, _ => h
  | t :: l, _, h, hl => joinS_lt l _ (Nat.or_lt_two_pow h (hl t (by simp))) fun u hu => hl u (by simp [hu])
theorem ofS_bit (k : Nat) (hk : k < 64) : ∀ (l : List Int) (s : Nat), (ofS s l).testBit k = (s.testBit k || hasL l k)
  | [], s => by simp [ofS, hasL]
  | n :: l, s => by
    rw [ofS, ofS_bit k hk l, Nat.testBit_or, oneS_bit n k hk, Bool.or_assoc]
    rfl
theorem lessS_bit (s t k : Nat) : (lessS s t).testBit k = (s.testBit k && !t.testBit k) := by
  unfold lessS
  rw [Nat.testBit_xor, Nat.testBit_and]
  cases s.testBit k <;> cases t.testBit k <;> rfl
theorem bits_eq {s t : Nat} (hs : s < 2 ^ 64) (ht : t < 2 ^ 64) (h : ∀ k, k < 64 → s.testBit k = t.testBit k) : s = t := by
  apply Nat.eq_of_testBit_eq
  intro k
  rcases Nat.lt_or_ge k 64 with hk | hk
  · exact h k hk
  · rw [Nat.testBit_lt_two_pow (Nat.lt_of_lt_of_le hs (Nat.pow_le_pow_right (by omega) hk)), Nat.testBit_lt_two_pow (Nat.lt_of_lt_of_le ht (Nat.pow_le_pow_right (by omega) hk))]
theorem numsF_eq : ∀ (f n s : Nat), numsF f n s = ((List.range f).filter s.testBit).map (n + ·)
  | 0, _, _ => rfl
  | f + 1, n, s => by
    rw [numsF, numsF_eq f, List.range_succ_eq_map, List.filter_cons, List.filter_map]
    have e1 : (s.testBit ∘ Nat.succ) = (s / 2).testBit := by
      funext k
      rw [Function.comp_apply, Nat.testBit_div_two]
    have e2 : s.testBit 0 = decide (s % 2 = 1) := Nat.testBit_zero s
    have e3 : ((fun x => n + x) ∘ Nat.succ) = fun x => n + 1 + x := by funext k; simp only [Function.comp_apply]; omega
    rw [e1, e2]
    by_cases h : s % 2 = 1
    · simp [h, e3]
    · simp [h, e3]
theorem numsS_eq (s : Nat) : numsS s = (List.range 64).filter s.testBit := by
  unfold numsS
  rw [numsF_eq]
  simp
theorem nums_lt {s n : Nat} (h : n ∈ numsS s) : n < 64 := by
  rw [numsS_eq] at h
  simpa using (List.mem_filter.1 h).1
theorem nums_len (s : Nat) : (numsS s).length ≤ 64 := by
  rw [numsS_eq]
  exact Nat.le_trans (List.length_filter_le _ _) (by simp)
/-- Numbers as the program has them. -/
def intsN (l : List Nat) : List Int := l.map Int.ofNat
theorem has_nums (s k : Nat) (hk : k < 64) : hasL (intsN (numsS s)) (k : Int) = s.testBit k := by
  rw [numsS_eq, Bool.eq_iff_iff]
  unfold hasL intsN
  simp only [List.any_map, List.any_eq_true, Function.comp_apply, List.mem_filter, List.mem_range, beq_iff_eq]
  constructor
  · rintro ⟨n, ⟨_, h⟩, e⟩
    obtain rfl : n = k := by rw [Int.ofNat_eq_natCast] at e; omega
    exact h
  · intro h
    exact ⟨k, ⟨hk, h⟩, rfl⟩
theorem has_nums_any (s : Nat) (n : Int) : hasL (intsN (numsS s)) n = (0 ≤ n && n < 64 && s.testBit n.toNat) := by
  by_cases h : 0 ≤ n ∧ n < 64
  · have := has_nums s n.toNat (by omega)
    rw [show ((n.toNat : Nat) : Int) = n by omega] at this
    rw [this]
    simp [h.1, h.2]
  · have h1 : (0 ≤ n && n < 64) = false := by
      rw [Bool.eq_false_iff]
      intro e
      simp at e
      exact h e
    rw [h1, Bool.false_and, Bool.eq_false_iff]
    intro e
    unfold hasL intsN at e
    simp only [List.any_map, List.any_eq_true, Function.comp_apply, beq_iff_eq] at e
    obtain ⟨m, hm, e⟩ := e
    have := nums_lt hm
    rw [Int.ofNat_eq_natCast] at e
    omega
theorem meet_one (s : Nat) (hs : s < 2 ^ 64) (n : Int) : (s &&& oneS n = 0) ↔ hasL (intsN (numsS s)) n = false := by
  rw [has_nums_any]
  constructor
  · intro h
    by_cases hn : 0 ≤ n ∧ n < 64
    · have := congrArg (fun t => t.testBit n.toNat) h
      simp only [Nat.testBit_and, Nat.zero_testBit] at this
      rw [oneS_bit n n.toNat (by omega), show ((n.toNat : Nat) : Int) = n by omega] at this
      simp at this
      simp [this]
    · have h1 : (0 ≤ n && n < 64) = false := by
        rw [Bool.eq_false_iff]
        intro e
        simp at e
        exact hn e
      rw [h1, Bool.false_and]
  · intro h
    refine bits_eq (Nat.lt_of_le_of_lt Nat.and_le_left hs) (by decide) fun k hk => ?_
    rw [Nat.testBit_and, oneS_bit n k hk, Nat.zero_testBit]
    by_cases e : n = (k : Int)
    · subst e
      have h0 : (0 : Int) ≤ (k : Int) := by omega
      have h1 : (k : Int) < 64 := by omega
      simp [h0, h1] at h
      simp [h]
    · have : (n == (k : Int)) = false := by simpa using e
      rw [this, Bool.and_false]
/-! ### The least one, the greatest one -/
theorem less_even (s c : Nat) : lessS s (2 ^ (c + 1)) / 2 = lessS (s / 2) (2 ^ c) ∧ lessS s (2 ^ (c + 1)) % 2 = s % 2 := by
  constructor
  · apply Nat.eq_of_testBit_eq
    intro k
    rw [Nat.testBit_div_two, lessS_bit, lessS_bit, Nat.testBit_div_two, Nat.testBit_two_pow, Nat.testBit_two_pow]
    congr 2
    rw [Bool.eq_iff_iff]
    simp
  · have h : (lessS s (2 ^ (c + 1))).testBit 0 = s.testBit 0 := by
      rw [lessS_bit, Nat.testBit_two_pow]
      simp
    rw [Nat.testBit_zero, Nat.testBit_zero] at h
    have := decide_eq_decide.1 h
    omega
theorem less_odd (s : Nat) : lessS s 1 / 2 = s / 2 ∧ lessS s 1 % 2 = 0 := by
  constructor
  · apply Nat.eq_of_testBit_eq
    intro k
    rw [Nat.testBit_div_two, lessS_bit, Nat.testBit_div_two, show (1 : Nat) = 2 ^ 0 from rfl, Nat.testBit_two_pow]
    simp
  · have h : (lessS s 1).testBit 0 = false := by
      rw [lessS_bit, show (1 : Nat) = 2 ^ 0 from rfl, Nat.testBit_two_pow]
      simp
    rw [Nat.testBit_zero] at h
    have := of_decide_eq_false h
    omega
theorem numsF_zero : ∀ (f n : Nat), numsF f n 0 = []
  | 0, _ => rfl
  | f + 1, n => by rw [numsF, if_neg (by omega), Nat.zero_div]; exact numsF_zero f _
theorem numsF_first : ∀ (f n s : Nat), s ≠ 0 → s < 2 ^ f → numsF f n s = (n + Lib.ctzFrom f s) :: numsF f n (lessS s (2 ^ Lib.ctzFrom f s))
  | 0, n, s, h0, h => by simp at h; omega
  | f + 1, n, s, h0, h => by
    rw [Lib.ctzFrom]
    by_cases h1 : s % 2 = 1
    · obtain ⟨a, b⟩ := less_odd s
      rw [if_pos h1, Nat.pow_zero, numsF, if_pos h1, numsF, if_neg (by omega), a]
      rfl
    · have hs : s / 2 < 2 ^ f := by rw [Nat.pow_succ] at h; omega
      obtain ⟨a, b⟩ := less_even s (Lib.ctzFrom f (s / 2))
      rw [if_neg h1, numsF, if_neg h1, numsF_first f (n + 1) (s / 2) (by omega) hs, numsF, Nat.add_comm 1, if_neg (by omega), a]
      congr 1
      omega
theorem nums_first (s : Nat) (h0 : s ≠ 0) (hs : s < 2 ^ 64) : numsS s = Lib.ctz 64 s :: numsS (lessS s (oneS (Lib.ctz 64 s))) := by
  have h := numsF_first 64 0 s h0 hs
  have hc := (Lib.lowest_bit 64 s h0 hs).2
  unfold numsS
  rw [h]
  unfold oneS Lib.ctz
  rw [if_neg h0]
  unfold Lib.ctz at hc
  rw [if_neg h0] at hc
  rw [if_pos (by omega), Nat.zero_add, Int.toNat_natCast]
theorem numsF_last : ∀ (f n s : Nat), s ≠ 0 → s < 2 ^ f → numsF f n s = numsF f n (lessS s (2 ^ (Lib.bitLenAux f s - 1))) ++ [n + (Lib.bitLenAux f s - 1)] ∧ 1 ≤ Lib.bitLenAux f s
  | 0, n, s, h0, h => by simp at h; omega
  | f + 1, n, s, h0, h => by
    have hs : s / 2 < 2 ^ f := by rw [Nat.pow_succ] at h; omega
    rw [Lib.bitLenAux, if_neg h0]
    refine ⟨?_, by omega⟩
    by_cases h2 : s / 2 = 0
    · obtain rfl : s = 1 := by omega
      have e0 : ∀ f, Lib.bitLenAux f 0 = 0 := fun f => by cases f <;> simp [Lib.bitLenAux]
      rw [show 1 / 2 = 0 from rfl, e0]
      rw [show lessS 1 (2 ^ (1 + 0 - 1)) = 0 by decide, numsF_zero, numsF, if_pos (by decide), show 1 / 2 = 0 from rfl, numsF_zero]
      rfl
    · obtain ⟨ih, hb⟩ := numsF_last f (n + 1) (s / 2) h2 hs
      obtain ⟨a, b⟩ := less_even s (Lib.bitLenAux f (s / 2) - 1)
      have e : 1 + Lib.bitLenAux f (s / 2) - 1 = Lib.bitLenAux f (s / 2) - 1 + 1 := by omega
      rw [e, numsF, numsF, a, b, ih]
      by_cases h1 : s % 2 = 1
      · rw [if_pos h1, if_pos h1, List.cons_append]
        congr 3
        omega
      · rw [if_neg h1, if_neg h1]
        congr 2
        omega
theorem bitLen_pos (s : Nat) (h0 : s ≠ 0) (hs : s < 2 ^ 64) : 1 ≤ Lib.bitLen s ∧ Lib.bitLen s ≤ 64 := ⟨(numsF_last 64 0 s h0 hs).2, Lib.bitLen_le s 64 (by omega) hs⟩
theorem nums_last (s : Nat) (h0 : s ≠ 0) (hs : s < 2 ^ 64) : numsS s = numsS (lessS s (oneS ((Lib.bitLen s : Int) - 1))) ++ [Lib.bitLen s - 1] := by
  obtain ⟨h, h1⟩ := numsF_last 64 0 s h0 hs
  have hb := bitLen_pos s h0 hs
  unfold numsS
  have e : oneS ((Lib.bitLen s : Int) - 1) = 2 ^ (Lib.bitLenAux 64 s - 1) := by
    unfold oneS
    rw [if_pos (by omega), show ((Lib.bitLen s : Int) - 1).toNat = Lib.bitLen s - 1 by omega]
    rfl
  rw [e, h, Nat.zero_add]
  rfl
/-! ### How many -/
theorem count_len : ∀ (f n s : Nat), Lib.popAux f s = (numsF f n s).length
  | 0, _, _ => rfl
  | f + 1, n, s => by
    rw [Lib.popAux, numsF, count_len f (n + 1)]
    by_cases h : s % 2 = 1
    · rw [if_pos h, h, List.length_cons]; omega
    · rw [if_neg h]; omega
theorem ones_len (s : Nat) : Lib.onesCount s = (numsS s).length := count_len 64 0 s
theorem count_both (s t : Nat) : (numsS (s ||| t)).length + (numsS (s &&& t)).length = (numsS s).length + (numsS t).length := by
  simp only [numsS_eq, ← List.countP_eq_length_filter]
  generalize List.range 64 = l
  induction l with
  | nil => rfl
  | cons k l ih =>
    simp only [List.countP_cons, Nat.testBit_or, Nat.testBit_and]
    cases s.testBit k <;> cases t.testBit k <;> simp <;> omega
/-! ### A list's set, number by number -/
theorem mod_bit (x k : Nat) : x % 2 ^ (k + 1) = x % 2 ^ k + (if x.testBit k then 2 ^ k else 0) := by
  rw [Nat.mod_pow_succ, Nat.testBit_eq_decide_div_mod_eq]
  by_cases h : x / 2 ^ k % 2 = 1
  · simp [h]
  · have : x / 2 ^ k % 2 = 0 := by omega
    simp [this]
theorem set_more (l : List Int) (k : Nat) (hk : k < 64) : ofS 0 l % 2 ^ (k + 1) = ofS 0 l % 2 ^ k + (if hasL l k then 2 ^ k else 0) := by
  rw [mod_bit, ofS_bit k hk, Nat.zero_testBit, Bool.false_or]
theorem set_end (l : List Int) : ofS 0 l % 2 ^ 64 = ofS 0 l := Nat.mod_eq_of_lt (ofS_lt l 0 (by decide))
end Go.Proofs.YtniecghigmgbnaaDoor

