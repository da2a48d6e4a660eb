/- Plain: what stands behind a blank makes no difference to the tokens ahead of it. No program. -/
import Derived.Test.YthpofpndlkhciaaJN
import Derived.WalkKit
namespace Go.Proofs.Ythpofpndlkhciaa
/-- What may stand behind a token, be it of a blank or of a parenthesis that closes. -/
def BehindP (r : List UInt8) : Prop := r = [] ∨ ∃ c q, r = c :: q ∧ (c = 32 ∨ c = 41)
theorem Behind.p {r : List UInt8} (h : Behind r) : BehindP r := by
  rcases h with rfl | ⟨q, rfl⟩
  · exact .inl rfl
  · exact .inr ⟨_, _, rfl, .inl rfl⟩
end Go.Proofs.Ythpofpndlkhciaa

