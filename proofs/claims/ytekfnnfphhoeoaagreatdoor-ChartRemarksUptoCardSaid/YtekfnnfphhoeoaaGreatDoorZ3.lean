/- Several texts of this proof, joined: I, R0. -/
import Derived.Test.YtekfnnfphhoeoaaGreatDoorZ1
import Derived.WalkKit
import Derived.ProofKit
import Derived.OpenShut
import Derived.Handy
import Derived.BigQuiet
import Derived.Lib.Hide
import Derived.WalkLawsBesides
import Derived.Test.YtekfnnfphhoeoaaGreatDoorZ2
import Derived.Lib.Strings
namespace Go.Proofs.YtekfnnfphhoeoaaGreatDoor
open Go.RowKit
theorem drop_cons (s : ByteArray) (k : Nat) (h : k < s.size) : s.data.toList.drop k = s[k] :: s.data.toList.drop (k + 1) := by
  rw [List.drop_eq_getElem_cons (by simpa using h)]; rfl
end Go.Proofs.YtekfnnfphhoeoaaGreatDoor
namespace Go.Proofs.YtekfnnfphhoeoaaGreatDoor
open Go.RowKit
theorem nil_of (s : ByteArray) (h : s.toList.isEmpty = true) : s = ⟨#[]⟩ := by
  rw [Lib.toList_data] at h
  obtain ⟨⟨l⟩⟩ := s
  simp at h
  subst h; rfl
/-- What a value has. -/
theorem right_cases (k n : Int) (s : ByteArray) (h : rightB k n s = true) : (k = 1 ∧ s = ⟨#[]⟩) ∨ (k = 2 ∧ s = ⟨#[]⟩ ∧ (n = 0 ∨ n = 1)) ∨ (k = 3 ∧ n = 0 ∧ plainB s.data.toList = true ∧ s.size ≤ 48) := by
  unfold rightB at h
  simp only [Bool.or_eq_true, Bool.and_eq_true, beq_iff_eq] at h
  rcases h with (⟨rfl, h⟩ | ⟨⟨rfl, h⟩, h2⟩) | ⟨⟨rfl, rfl⟩, h⟩
  · exact Or.inl ⟨rfl, nil_of s h⟩
  · exact Or.inr (Or.inl ⟨rfl, nil_of s h, h2⟩)
  · refine Or.inr (Or.inr ⟨rfl, rfl, h, ?_⟩)
    simp [plainB] at h; exact h.1
end Go.Proofs.YtekfnnfphhoeoaaGreatDoor
