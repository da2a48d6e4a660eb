/- Plain: a text's parts between dots, and what stands ahead of a quote. No program. -/
import Derived.Test.YtphdnfijefddlaaDoorLX
import Derived.Lib.SplitLaws
namespace Go.Proofs.YtphdnfijefddlaaDoor
open Go.Lib
theorem byte_eq (c : UInt8) (d : Nat) (hd : d < 256) : ((c.toNat : Int) == (d : Int)) = (c == UInt8.ofNat d) := by
  rw [Bool.eq_iff_iff, beq_iff_eq, beq_iff_eq]
  constructor
  · intro h
    apply UInt8.toNat_inj.1
    rw [UInt8.toNat_ofNat', Nat.mod_eq_of_lt hd]
    omega
  · rintro rfl
    rw [UInt8.toNat_ofNat', Nat.mod_eq_of_lt hd]
theorem dot_eq (c : UInt8) : ((c.toNat : Int) == 46) = (c == 46) := byte_eq c 46 (by decide)
theorem dotL_eq (l : List UInt8) : dotL l = l.contains 46 := by
  unfold dotL
  rw [List.contains_eq_any_beq]
  congr 1
  funext c
  rw [dot_eq, Bool.eq_iff_iff, beq_iff_eq, beq_iff_eq]
  exact ⟨Eq.symm, Eq.symm⟩
theorem occ_one (l : List UInt8) (c : UInt8) (j : Nat) : occAt l [c] j = (l[j]? == some c) := by
  unfold occAt
  rw [← List.head?_drop]
  cases h : l.drop j with
  | nil => rfl
  | cons d r =>
    rw [Bool.eq_iff_iff]
    simp [List.isPrefixOf]
    exact ⟨Eq.symm, Eq.symm⟩
/-- Where c stands first, or that it doesn't. -/
theorem index_one (l : List UInt8) (c : UInt8) : (index l [c] = -1 ∧ ∀ d ∈ l, d ≠ c) ∨ ∃ a r, l = a ++ c :: r ∧ index l [c] = a.length ∧ ∀ d ∈ a, d ≠ c := by
  rcases index_spec l [c] with ⟨h, hn⟩ | ⟨i, h, hi, ho, hn⟩
  · refine .inl ⟨h, fun d hd he => ?_⟩
    subst he
    obtain ⟨j, hj, hjd⟩ := List.getElem_of_mem hd
    have := hn j (by omega)
    rw [occ_one, List.getElem?_eq_getElem hj, hjd] at this
    simp at this
  · rw [occ_one, beq_iff_eq] at ho
    have hlt : i < l.length := by
      rcases Nat.lt_or_ge i l.length with h1 | h1
      · exact h1
      · rw [List.getElem?_eq_none h1] at ho; cases ho
    have he : l[i] = c := by rw [List.getElem?_eq_getElem hlt] at ho; exact Option.some.inj ho
    refine .inr ⟨l.take i, l.drop (i + 1), ?_, ?_, ?_⟩
    · rw [← he, ← List.drop_eq_getElem_cons hlt, List.take_append_drop]
    · rw [h, List.length_take, Nat.min_eq_left hi]
    · intro d hd hdc
      subst hdc
      obtain ⟨j, hj, hjd⟩ := List.getElem_of_mem hd
      have hj' : j < i := by rw [List.length_take] at hj; omega
      have := hn j hj'
      rw [occ_one, List.getElem?_eq_getElem (by omega), beq_eq_false_iff_ne] at this
      rw [List.getElem_take] at hjd
      exact this (by rw [hjd])
def pieces (t : ByteArray) : List ByteArray := splitB ⟨#[46]⟩ 0 (countB t ⟨#[46]⟩) t
theorem pieces_length (t : ByteArray) : (pieces t).length = countB t ⟨#[46]⟩ + 1 := splitB_all _ (by decide) 0 _ t rfl
end Go.Proofs.YtphdnfijefddlaaDoor

