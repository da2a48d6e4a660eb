/- From what came in to the walks (layer 4). -/
import Derived.Test.YtlekmpjmcbnjdaaGreatDoorY7
import Derived.Test.YtlekmpjmcbnjdaaGreatDoorY5
import Derived.WalkKit
import Derived.ProofKit
import Derived.OpenShut
import Derived.Handy
import Derived.BigQuiet
import Derived.Lib.Hide
import Derived.WalkSmall
import Derived.WalkLawsBesides
import Derived.Test.YtlekmpjmcbnjdaaGreatDoorKV
import Derived.Test.YtlekmpjmcbnjdaaGreatDoorOS
import Derived.Test.YtlekmpjmcbnjdaaGreatDoorUB
import Derived.Test.YtlekmpjmcbnjdaaGreatDoorRows
namespace Go.Proofs.YtlekmpjmcbnjdaaGreatDoor
open Go.RowKit
set_option maxRecDepth 100000 in
theorem nodes_reach {H : Type} {ns : List Nd} {d : DataW H} (D : ns = [] ∨ ∃ sp, d = .slice (ns.map ndD) sp) (hz : (d.weights Tryz.prog 31).all (· ≤ reachBytes) = true) : ∀ n ∈ ns, n.s.length ≤ 140737488351232 ∧ n.name.length ≤ 140737488351232 := by
  intro n hn
  rcases D with rfl | ⟨sp, rfl⟩
  · cases hn
  · have hu := Tryz.underlying31
    have hv := Tryz.underlying77
    have hw := Tryz.underlying36
    rw [DataW.weights, hu] at hz
    simp only [List.all_cons, List.all_append, Bool.and_eq_true] at hz
    have hall : ∀ (ms : List (DataW H)), (DataW.weightsAll Tryz.prog 77 ms).all (· ≤ reachBytes) = true → ∀ m ∈ ms, (m.weights Tryz.prog 77).all (· ≤ reachBytes) = true := by
      intro ms
      induction ms with
      | nil => exact fun _ m h => by cases h
      | cons a r ih =>
        intro h m hm
        rw [DataW.weightsAll, List.all_append, Bool.and_eq_true] at h
        rcases List.mem_cons.1 hm with rfl | hm
        · exact h.1
        · exact ih h.2 m hm
    have h1 := hall _ hz.2.1 _ (List.mem_map_of_mem (f := ndD) hn)
    unfold ndD at h1
    rw [DataW.weights, hv] at h1
    simp only [List.map_cons, DataW.weightsEach, DataW.weights, hw, List.all_append, List.all_cons, Bool.and_eq_true] at h1
    obtain ⟨_, ⟨_, _, h2, _⟩, h3, _⟩ := h1
    have a2 : n.s.length ≤ reachBytes := of_decide_eq_true h2.1
    have a3 : n.name.length ≤ reachBytes := of_decide_eq_true h3.1
    exact ⟨a2, a3⟩
end Go.Proofs.YtlekmpjmcbnjdaaGreatDoor

