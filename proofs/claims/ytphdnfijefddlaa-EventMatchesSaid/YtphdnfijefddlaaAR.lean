/- Rows that came in: an address at which a cell lies is a block and a place in it. -/
import Derived.Test.YtphdnfijefddlaaOT
import Derived.Test.YtphdnfijefddlaaXO
namespace Go.Proofs.Ytphdnfijefddlaa
open Go.RowKit
theorem spot_none {w : World} {a : Addr} {v : Value} (h : w.cell? a = some v) : a = ⟨a.block, a.off, none⟩ := by
  obtain ⟨b, o, s⟩ := a
  cases s with
  | none => rfl
  | some k =>
    unfold World.cell? at h
    simp only [Option.isSome_some, if_true] at h
    repeat' split at h
    all_goals cases h
theorem add_zero_addr (a : Addr) : a.add 0 = a := by unfold Addr.add; rw [if_pos rfl]
theorem add_plain (b o i : Nat) : (⟨b, o, none⟩ : Addr).add i = ⟨b, o + i, none⟩ := by
  unfold Addr.add
  split
  · rename_i h; subst h; rfl
  · rfl
theorem strs_arg {w : World} {a : Addr} {ss : List ByteArray} (h : ∀ i (hi : i < ss.length), w.cell? (a.add i) = some (.string ss[i])) : StrsAt w (some a) ss := by
  intro h0
  have h1 := h 0 h0
  rw [add_zero_addr] at h1
  have he := spot_none h1
  refine ⟨a.block, a.off, by rw [← he], World.block_lt_of_cell? _ _ h1, fun i hi => ?_⟩
  have := h i hi
  rw [he, add_plain] at this
  exact this
end Go.Proofs.Ytphdnfijefddlaa

