/- The law's own helper (layer 4): variables as the document has them. -/
import Derived.Test.YtlekmpjmcbnjdaaGreatDoorY7
import Derived.Test.YtlekmpjmcbnjdaaGreatDoorXR
import Derived.WalkKit
import Derived.ProofKit
import Derived.OpenShut
import Derived.Handy
import Derived.BigQuiet
import Derived.OwnWalk
import Derived.Deep.AppendLies
import Derived.Lib.Hide
import Derived.WalkSmall
import Derived.WalkLawsBesides
namespace Go.Proofs.YtlekmpjmcbnjdaaGreatDoor
open Go.RowKit
def varC (v : ByteArray × Int) : List Value := [.string v.1, .int .i64 v.2]
def varsC (vs : List (ByteArray × Int)) : List Value := vs.flatMap varC
theorem varsC_take (vs : List (ByteArray × Int)) (i : Nat) (h : i < vs.length) : varsC (vs.take (i + 1)) = varsC (vs.take i) ++ varC vs[i] := by
  unfold varsC
  rw [List.take_succ_eq_append_getElem h, List.flatMap_append, List.flatMap_cons, List.flatMap_nil, List.append_nil]
theorem varsC_at : ∀ (vs : List (ByteArray × Int)) (i : Nat) (h : i < vs.length) (j : Nat), j < 2 → (varsC vs)[i * 2 + j]? = (varC vs[i])[j]?
  | [], i, h, _, _ => absurd h (Nat.not_lt_zero _)
  | t :: r, 0, _, j, hj => by
    unfold varsC
    rw [List.flatMap_cons, Nat.zero_mul, Nat.zero_add, List.getElem?_append_left (by simpa [varC] using hj)]
    rfl
  | t :: r, i + 1, h, j, hj => by
    have ih := varsC_at r i (by simpa using h) j hj
    unfold varsC at *
    rw [List.flatMap_cons, List.getElem?_append_right (by simp [varC]; omega), show (i + 1) * 2 + j - (varC t).length = i * 2 + j by simp [varC]; omega, ih]
    rfl
theorem vars_own {w : World} {B cap : Nat} {e : TypeId} {na : Option Addr} {vs : List (ByteArray × Int)} (h : w.ownsRow B e 2 (.slice na vs.length cap) vs.length (varsC vs)) : VarsAt w na vs := by
  intro h0
  rcases h.2 with ⟨_, hn⟩ | ⟨g, cap', cur, hv, hb, hg, _⟩
  · omega
  · cases hv
    have hc := h.cells (g := g) rfl
    have hadd : ∀ j, (⟨g, 0, none⟩ : Addr).add j = ⟨g, j, none⟩ := fun j => by unfold Addr.add; split <;> simp_all
    refine ⟨g, 0, rfl, (Array.getElem?_eq_some_iff.1 hg).1, fun i hi => ?_⟩
    rw [Nat.zero_add]
    refine ⟨?_, ?_⟩
    · rw [← hadd]; exact hc _ _ ((varsC_at vs i hi 0 (by decide)).trans rfl)
    · rw [← hadd]; exact hc _ _ ((varsC_at vs i hi 1 (by decide)).trans rfl)
end Go.Proofs.YtlekmpjmcbnjdaaGreatDoor

