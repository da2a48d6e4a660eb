/- From what came in to the walks (layer 4). -/
import Derived.Test.YtkjgfcbanlcmgaaGreatDoorKE
import Derived.Test.YtkjgfcbanlcmgaaGreatDoorOS
import Derived.Test.YtkjgfcbanlcmgaaGreatDoorUB
import Derived.Test.YtkjgfcbanlcmgaaGreatDoorRows
namespace Go.Proofs.YtkjgfcbanlcmgaaGreatDoor
open Go.RowKit
theorem bulk_small {H : Type} {ns : List Nd} {d : DataW H} (D : ns = [] ∨ ∃ sp, d = .slice (ns.map ndD) sp) (h : Rows.uptoBulk d ≤ 1048576) : ∀ n ∈ ns, n.s.length ≤ 2000000 ∧ n.name.length ≤ 2000000 := by
  intro n hn
  rcases D with rfl | ⟨sp, rfl⟩
  · cases hn
  · have := bulk_nodes (H := H) (sp := sp) hn
    omega
theorem forms_row {H : Type} {W : World} {v0 v1 : Value} {d1 : DataW H} {ns : List Nd} {vs : List (ByteArray × Int)} {ss : List ByteArray} (N : NodesV W v0 ns) (hb : ∀ n ∈ ns, n.s.length ≤ 2000000 ∧ n.name.length ≤ 2000000) (S : ScopeV W v1 d1 vs ss)
    (hz : (d1.weights Tryz.prog 25).all (· ≤ reachBytes) = true) (hl : Lb W) (he : Eg W) : Calls Tryz.prog 4 #[v0, v1] W (Ret (.bool true) W) := by
  have hr := (scope_reach S hz).1
  obtain ⟨ao, cap, rfl, hm, hN, _⟩ := N
  obtain ⟨va, vc, sa, sc, rfl, hv, _, hvm, _⟩ := S
  exact forms_walk ao cap ns va vc vs sa ss.length sc hm hb hvm hr W hN hv hl he
end Go.Proofs.YtkjgfcbanlcmgaaGreatDoor

