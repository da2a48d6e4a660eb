/- From what came in to the walks (layer 4). -/
import Derived.Test.YtkjgfcbanlcmgaaGreatDoorKE
import Derived.Test.YtkjgfcbanlcmgaaGreatDoorOS
import Derived.Test.YtkjgfcbanlcmgaaGreatDoorUB
import Derived.Test.YtkjgfcbanlcmgaaGreatDoorRows
namespace Go.Proofs.YtkjgfcbanlcmgaaGreatDoor
open Go.RowKit
theorem bulk_small {H : Type} {ns : List Nd} {d : DataW H} (D : ns = [] ∨ ∃ sp, d = .slice (ns.map ndD) sp) (h : Rows.uptoBulk d ≤ 1048576) : ∀ n ∈ ns, n.s.length ≤ 140737488351232 ∧ n.name.length ≤ 140737488351232 := by
  intro n hn
  rcases D with rfl | ⟨sp, rfl⟩
  · cases hn
  · have := bulk_nodes (H := H) (sp := sp) hn
    omega
set_option maxRecDepth 100000 in
theorem nodes_reach {H : Type} {ns : List Nd} {d : DataW H} (D : ns = [] ∨ ∃ sp, d = .slice (ns.map ndD) sp) (hz : (d.weights Tryz.prog 31).all (· ≤ reachBytes) = true) : ∀ n ∈ ns, n.s.length ≤ 140737488351232 ∧ n.name.length ≤ 140737488351232 := by
  intro n hn
  rcases D with rfl | ⟨sp, rfl⟩
  · cases hn
  · have hu := Tryz.underlying31
    have hv := Tryz.underlying57
    have hw := Tryz.underlying55
    rw [DataW.weights, hu] at hz
    simp only [List.all_cons, List.all_append, Bool.and_eq_true] at hz
    have hall : ∀ (ms : List (DataW H)), (DataW.weightsAll Tryz.prog 57 ms).all (· ≤ reachBytes) = true → ∀ m ∈ ms, (m.weights Tryz.prog 57).all (· ≤ reachBytes) = true := by
      intro ms
      induction ms with
      | nil => exact fun _ m h => by cases h
      | cons a r ih =>
        intro h m hm
        rw [DataW.weightsAll, List.all_append, Bool.and_eq_true] at h
        rcases List.mem_cons.1 hm with rfl | hm
        · exact h.1
        · exact ih h.2 m hm
    have h1 := hall _ hz.2.1 _ (List.mem_map_of_mem (f := ndD) hn)
    unfold ndD at h1
    rw [DataW.weights, hv] at h1
    simp only [List.map_cons, DataW.weightsEach, DataW.weights, hw, List.all_append, List.all_cons, Bool.and_eq_true] at h1
    obtain ⟨_, ⟨_, _, h2, _⟩, h3, _⟩ := h1
    have a2 : n.s.length ≤ reachBytes := of_decide_eq_true h2.1
    have a3 : n.name.length ≤ reachBytes := of_decide_eq_true h3.1
    exact ⟨a2, a3⟩
theorem forms_row {H : Type} {W : World} {v0 v1 : Value} {d1 : DataW H} {ns : List Nd} {vs : List (ByteArray × Int)} {ss : List ByteArray} (N : NodesV W v0 ns) (hb : ∀ n ∈ ns, n.s.length ≤ 140737488351232 ∧ n.name.length ≤ 140737488351232) (S : ScopeV W v1 d1 vs ss)
    (hz : (d1.weights Tryz.prog 25).all (· ≤ reachBytes) = true) (hl : Lb W) (he : Eg W) : Calls Tryz.prog 4 #[v0, v1] W (Ret (.bool true) W) := by
  have hr := (scope_reach S hz).1
  obtain ⟨ao, cap, rfl, hm, hN, _⟩ := N
  obtain ⟨va, vc, sa, sc, rfl, hv, _, hvm, _⟩ := S
  exact forms_walk ao cap ns va vc vs sa ss.length sc hm hb hvm hr W hN hv hl he
end Go.Proofs.YtkjgfcbanlcmgaaGreatDoor

