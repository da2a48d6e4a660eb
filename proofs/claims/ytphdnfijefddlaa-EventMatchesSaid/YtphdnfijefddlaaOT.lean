/- A token (a struct of a number, a text, a number and a number), and a slice of texts, that came in. -/
import Derived.Test.YtphdnfijefddlaaChecked
import Derived.Test.YtphdnfijefddlaaOV
import Derived.Test.YtphdnfijefddlaaTN
import Derived.Test.YtphdnfijefddlaaT2
import Derived.WalkKit
import Derived.ProofKit
import Derived.OpenShut
import Derived.Handy
import Derived.BigQuiet
import Derived.Lib.Hide
import Derived.WalkSmall
import Derived.Deep.MidRow
import Derived.WalkLawsBesides
import Derived.OwnWalk
import Derived.Deep.AppendLies
import Derived.SliceStrings
import Derived.Lib.SmallJoins
namespace Go.Proofs.Ytphdnfijefddlaa
open Go.RowKit Go.ChangeShapes Go.WideShapes Go.Joins
/-- A slice of texts: none, or its texts lie where it says. -/
def StrsV (w : World) (v : Value) : Prop := v = .slice none 0 0 ∨ ∃ (a : Addr) (len cap : Nat) (ss : List ByteArray), v = .slice (some a) len cap ∧ len ≤ maxLen ∧ len ≤ ss.length ∧ ∀ i, i < ss.length → w.cell? (a.add i) = some (.string (ss.getD i ByteArray.empty))
set_option maxRecDepth 100000 in
theorem open_strsV {H : Type} {enc : TypeId × Value → H} {w : World} {base b0 : Nat} {spare : Nat → Bool} {held : Bool} {r : Reach} {v : Value} {d : DataW H} {p : List MemPlace}
    (hv : Value.okWide Try.prog w r b0 22 v) (h : DataW.Trod enc Try.prog w base spare held 22 v d p) : StrsV w v := by
  obtain ⟨a0, len, cap, rfl⟩ := okWide_slice Try.underlying22 hv
  obtain ⟨fuel, hf⟩ := h
  rcases open_strings Try.underlying22 Try.underlying9 (by kernel_rfl) hf with ⟨hcs, _⟩ | ⟨a, len', cap', ss, hcs, _, hl, hm, hz, _, hcell, _⟩
  · left
    exact (List.cons.inj (show [Value.slice a0 len cap] = [_] from hcs)).1
  · right
    refine ⟨a, len', cap', ss, (List.cons.inj (show [Value.slice a0 len cap] = [_] from hcs)).1, Nat.le_trans hl hm, ?_, hcell⟩
    rw [hz]
    split
    · exact hl
    · exact Nat.le_refl _
end Go.Proofs.Ytphdnfijefddlaa

