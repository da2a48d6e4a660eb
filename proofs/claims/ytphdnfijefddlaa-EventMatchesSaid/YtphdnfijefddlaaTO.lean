/- Texts that came in. -/
import Derived.Test.YtphdnfijefddlaaOT
import Derived.Test.YtphdnfijefddlaaAR
import Derived.Test.YtphdnfijefddlaaXO
namespace Go.Proofs.Ytphdnfijefddlaa
open Go.RowKit Go.ChangeShapes Go.WideShapes
set_option maxRecDepth 100000 in
/-- Texts that came in. -/
theorem open_txts {H : Type} {enc : TypeId × Value → H} {w : World} {base b0 : Nat} {spare : Nat → Bool} {held : Bool} {r : Reach} {v : Value} {d : DataW H} {p : List MemPlace}
    (hv : Value.okWide Try.prog w r b0 22 v) (h : DataW.Trod enc Try.prog w base spare held 22 v d p) : ∃ (ao : Option Addr) (ss : List ByteArray) (cap : Nat), v = .slice ao ss.length cap ∧ ss.length ≤ maxLen ∧ StrsAt w ao ss := by
  rcases open_strsV hv h with rfl | ⟨a, len, cap, ss, rfl, hm, hl, hc⟩
  · exact ⟨none, [], 0, rfl, Nat.zero_le _, fun h => absurd h (Nat.not_lt_zero _)⟩
  · have e : (ss.take len).length = len := by rw [List.length_take]; omega
    refine ⟨some a, ss.take len, cap, by rw [e], by rw [e]; exact hm, strs_arg fun i hi => ?_⟩
    have hi' : i < ss.length := by rw [e] at hi; omega
    rw [hc i hi', List.getElem_take, List.getD_eq_getElem?_getD, List.getElem?_eq_getElem hi']
    rfl
end Go.Proofs.Ytphdnfijefddlaa

