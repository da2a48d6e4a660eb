/- How much data there is: nodes' texts and names are no longer than the bulk of what came in. -/
import Derived.Test.YtlekmpjmcbnjdaaGreatDoorON
import Derived.Test.YtlekmpjmcbnjdaaGreatDoorRows
namespace Go.Proofs.YtlekmpjmcbnjdaaGreatDoor
open Go.RowKit
theorem bulk_mem {H : Type} {d : DataW H} : ∀ {l : List (DataW H)}, d ∈ l → Rows.uptoBulk d ≤ Rows.uptoBulkAll l
  | [], h => by cases h
  | e :: r, h => by
    rw [Rows.uptoBulkAll]
    rcases List.mem_cons.1 h with rfl | h
    · omega
    · have := bulk_mem h
      omega
theorem bulk_nd {H : Type} (n : Nd) : n.s.length + n.name.length ≤ Rows.uptoBulk (ndD (H := H) n) := by
  simp only [ndD, Rows.uptoBulk, Rows.uptoBulkAll]
  omega
theorem bulk_nodes {H : Type} {ns : List Nd} {sp : List (DataW H)} {n : Nd} (h : n ∈ ns) : n.s.length + n.name.length ≤ Rows.uptoBulk (.slice (ns.map ndD) sp) := by
  have h1 := bulk_mem (H := H) (List.mem_map_of_mem (f := ndD) h)
  have h2 := bulk_nd (H := H) n
  rw [Rows.uptoBulk]
  omega
end Go.Proofs.YtlekmpjmcbnjdaaGreatDoor

