/- Plain: a text's parts between dots, and what stands ahead of a quote. No program. -/
import Derived.Test.YtidbmampjjgkpaaDoorLX
import Derived.Lib.SplitLaws
namespace Go.Proofs.YtidbmampjjgkpaaDoor
open Go.Lib
theorem byte_eq (c : UInt8) (d : Nat) (hd : d < 256) : ((c.toNat : Int) == (d : Int)) = (c == UInt8.ofNat d) := by
  rw [Bool.eq_iff_iff, beq_iff_eq, beq_iff_eq]
  constructor
  · intro h
    apply UInt8.toNat_inj.1
    rw [UInt8.toNat_ofNat', Nat.mod_eq_of_lt hd]
    omega
  · rintro rfl
    rw [UInt8.toNat_ofNat', Nat.mod_eq_of_lt hd]
theorem dot_eq (c : UInt8) : ((c.toNat : Int) == 46) = (c == 46) := byte_eq c 46 (by decide)
theorem quote_eq (c : UInt8) : ((c.toNat : Int) == 39) = (c == 39) := byte_eq c 39 (by decide)
theorem long_plain (l : List UInt8) : ∀ n, (∀ c ∈ l, c ≠ 46) → longL n l = decide (16 < n + l.length) := by
  induction l with
  | nil => intro n _; rfl
  | cons c r ih =>
    intro n h
    have hc : ((c.toNat : Int) == 46) = false := by rw [dot_eq, beq_eq_false_iff_ne]; exact h c (by simp)
    rw [longL, hc, if_neg (by decide), ih (n + 1) (fun d hd => h d (by simp [hd])), List.length_cons]
    congr 1
    rw [eq_iff_iff]
    omega
theorem long_cut (l r : List UInt8) : ∀ n, (∀ c ∈ l, c ≠ 46) → longL n (l ++ 46 :: r) = (decide (16 < n + l.length) || longL 0 r) := by
  induction l with
  | nil => intro n _; rw [List.nil_append, longL]; rfl
  | cons c l ih =>
    intro n h
    have hc : ((c.toNat : Int) == 46) = false := by rw [dot_eq, beq_eq_false_iff_ne]; exact h c (by simp)
    rw [List.cons_append, longL, hc, if_neg (by decide), ih (n + 1) (fun d hd => h d (by simp [hd])), List.length_cons]
    congr 2
    rw [eq_iff_iff]
    omega
theorem dotL_eq (l : List UInt8) : dotL l = l.contains 46 := by
  unfold dotL
  rw [List.contains_eq_any_beq]
  congr 1
  funext c
  rw [dot_eq, Bool.eq_iff_iff, beq_iff_eq, beq_iff_eq]
  exact ⟨Eq.symm, Eq.symm⟩
theorem occ_one (l : List UInt8) (c : UInt8) (j : Nat) : occAt l [c] j = (l[j]? == some c) := by
  unfold occAt
  rw [← List.head?_drop]
  cases h : l.drop j with
  | nil => rfl
  | cons d r =>
    rw [Bool.eq_iff_iff]
    simp [List.isPrefixOf]
    exact ⟨Eq.symm, Eq.symm⟩
/-- Where c stands first, or that it doesn't. -/
theorem index_one (l : List UInt8) (c : UInt8) : (index l [c] = -1 ∧ ∀ d ∈ l, d ≠ c) ∨ ∃ a r, l = a ++ c :: r ∧ index l [c] = a.length ∧ ∀ d ∈ a, d ≠ c := by
  rcases index_spec l [c] with ⟨h, hn⟩ | ⟨i, h, hi, ho, hn⟩
  · refine .inl ⟨h, fun d hd he => ?_⟩
    subst he
    obtain ⟨j, hj, hjd⟩ := List.getElem_of_mem hd
    have := hn j (by omega)
    rw [occ_one, List.getElem?_eq_getElem hj, hjd] at this
    simp at this
  · rw [occ_one, beq_iff_eq] at ho
    have hlt : i < l.length := by
      rcases Nat.lt_or_ge i l.length with h1 | h1
      · exact h1
      · rw [List.getElem?_eq_none h1] at ho; cases ho
    have he : l[i] = c := by rw [List.getElem?_eq_getElem hlt] at ho; exact Option.some.inj ho
    refine .inr ⟨l.take i, l.drop (i + 1), ?_, ?_, ?_⟩
    · rw [← he, ← List.drop_eq_getElem_cons hlt, List.take_append_drop]
    · rw [h, List.length_take, Nat.min_eq_left hi]
    · intro d hd hdc
      subst hdc
      obtain ⟨j, hj, hjd⟩ := List.getElem_of_mem hd
      have hj' : j < i := by rw [List.length_take] at hj; omega
      have := hn j hj'
      rw [occ_one, List.getElem?_eq_getElem (by omega), beq_eq_false_iff_ne] at this
      rw [List.getElem_take] at hjd
      exact this (by rw [hjd])
theorem pieces_list : ∀ (k : Nat) (t : List UInt8), count t [46] = k → (splitK [46] 0 k t).any (fun p => decide (16 < p.length)) = longL 0 t ∧ dotL t = decide (0 < k)
  | 0, t, hk => by
    rcases index_one t 46 with ⟨h, hn⟩ | ⟨a, r, he, h, hn⟩
    · refine ⟨?_, ?_⟩
      · rw [long_plain t 0 hn]
        simp [splitK]
      · rw [dotL_eq]
        simp only [Nat.lt_irrefl, decide_false, List.contains_eq_mem, decide_eq_false_iff_not]
        exact fun h => hn 46 h rfl
    · rw [count_hit (i := a.length) (by simp) h] at hk
      omega
  | k + 1, t, hk => by
    rcases index_one t 46 with ⟨h, hn⟩ | ⟨a, r, he, h, hn⟩
    · rw [count_miss h] at hk; omega
    · have hd : t.drop (a.length + 1) = r := by rw [he, List.drop_append, List.drop_of_length_le (by omega)]; simp
      rw [count_hit (i := a.length) (by simp) h] at hk
      have hk' : count r [46] = k := by
        have : count (t.drop (a.length + [(46 : UInt8)].length)) [46] = k := by omega
        rw [← hd]; exact this
      have ih := pieces_list k r hk'
      refine ⟨?_, ?_⟩
      · have hne : (index t [46] == -1) = false := by rw [h, beq_eq_false_iff_ne]; omega
        rw [splitK, hne, if_neg (by decide), h]
        simp only [Int.toNat_natCast, Nat.add_zero, List.any_cons, List.length_singleton]
        rw [hd, ih.1, he, long_cut a r 0 hn, List.take_left' rfl]
        simp
      · rw [dotL_eq, he]
        simp
def pieces (t : ByteArray) : List ByteArray := splitB ⟨#[46]⟩ 0 (countB t ⟨#[46]⟩) t
theorem pieces_length (t : ByteArray) : (pieces t).length = countB t ⟨#[46]⟩ + 1 := splitB_all _ (by decide) 0 _ t rfl
theorem pieces_any (t : ByteArray) : (pieces t).any (fun p => decide (16 < p.size)) = longL 0 t.data.toList ∧ dotL t.data.toList = decide (1 < (pieces t).length) := by
  have h := pieces_list (countB t ⟨#[46]⟩) t.data.toList rfl
  have hd : (pieces t).map (·.data.toList) = splitK [46] 0 (countB t ⟨#[46]⟩) t.data.toList := splitB_data _ _ _ _
  rw [← hd] at h
  refine ⟨?_, ?_⟩
  · rw [← h.1, List.any_map]
    congr 1
  · rw [h.2, pieces_length]
    congr 1
    rw [eq_iff_iff]
    omega
theorem cut_one (l : List UInt8) (c : UInt8) : ((cut l [c]).2.2 = false ∧ ∀ d ∈ l, d ≠ c) ∨ ∃ a r, l = a ++ c :: r ∧ (cut l [c]).1 = a ∧ (cut l [c]).2.2 = true ∧ ∀ d ∈ a, d ≠ c := by
  unfold cut
  rcases index_one l c with ⟨h, hn⟩ | ⟨a, r, he, h, hn⟩
  · refine .inl ⟨?_, hn⟩
    simp [h]
  · refine .inr ⟨a, r, he, ?_, ?_, hn⟩
    · simp only [h]
      simp [he]
    · simp only [h]
      simp
theorem span_text (l : List UInt8) (h : ∀ d ∈ l, d ≠ 39) : spanL textL l = l.length := by
  induction l with
  | nil => rfl
  | cons c r ih =>
    have hc : textL (c :: r) = true := by
      show (!((c.toNat : Int) == 39)) = true
      rw [quote_eq, beq_eq_false_iff_ne.2 (h c (by simp))]; rfl
    rw [span_yes hc, ih (fun d hd => h d (by simp [hd])), List.length_cons]
theorem span_text_cut (a r : List UInt8) (h : ∀ d ∈ a, d ≠ 39) : spanL textL (a ++ 39 :: r) = a.length := by
  induction a with
  | nil => exact span_no (p := textL) rfl
  | cons c a ih =>
    have hc : textL (c :: (a ++ 39 :: r)) = true := by
      show (!((c.toNat : Int) == 39)) = true
      rw [quote_eq, beq_eq_false_iff_ne.2 (h c (by simp))]; rfl
    rw [List.cons_append, span_yes hc, ih (fun d hd => h d (by simp [hd])), List.length_cons]
end Go.Proofs.YtidbmampjjgkpaaDoor
