/- An expression as the document has it: its cells. -/
import Derived.Test.YtekfnnfphhoeoaaGreatDoorY5
import Derived.WalkKit
import Derived.ProofKit
import Derived.OpenShut
import Derived.Handy
import Derived.BigQuiet
import Derived.OwnWalk
import Derived.Deep.AppendLies
import Derived.Lib.Hide
import Derived.WalkSmall
import Derived.WalkLawsBesides
namespace Go.Proofs.YtekfnnfphhoeoaaGreatDoor
open Go.RowKit
theorem Tryz.infoN : (Tryz.prog.info? 184).map (fun i => (i.zero, i.size, i.bytes)) = some (some (.agg #[.int .i64 0, .int .i64 0, .int .i64 0, .string ⟨#[]⟩, .string ⟨#[]⟩, .int .i64 0, .int .i64 0]), 7, 72) := by kernel_rfl
theorem new_at {w : World} {o : Obj} {b : Nat} (h : b = w.heap.size) : (w.alloc o).heap[b]? = some o := by rw [h]; exact heap_alloc_new w o
theorem ndsC_take (ns : List Nd) (i : Nat) (h : i < ns.length) : ndsC (ns.take (i + 1)) = ndsC (ns.take i) ++ ndC ns[i] := by
  rw [List.take_succ_eq_append_getElem h, ndsC_snoc]
theorem ndsL_at : ∀ (ns : List Nd) (i : Nat) (h : i < ns.length) (j : Nat), j < 7 → (ndsC ns)[i * 7 + j]? = (ndC ns[i])[j]?
  | [], i, h, _, _ => absurd h (Nat.not_lt_zero _)
  | t :: r, 0, _, j, hj => by
    unfold ndsC
    rw [List.flatMap_cons, Nat.zero_mul, Nat.zero_add, List.getElem?_append_left (by simpa [ndC] using hj)]
    rfl
  | t :: r, i + 1, h, j, hj => by
    have ih := ndsL_at r i (by simpa using h) j hj
    unfold ndsC at *
    rw [List.flatMap_cons, List.getElem?_append_right (by simp [ndC]; omega), show (i + 1) * 7 + j - (ndC t).length = i * 7 + j by simp [ndC]; omega, ih]
    rfl
theorem ndsL_own {w : World} {B cap : Nat} {e : TypeId} {na : Option Addr} {ns : List Nd} (h : w.ownsRow B e 7 (.slice na ns.length cap) ns.length (ndsC ns)) : NdsAt w na ns := by
  intro h0
  rcases h.2 with ⟨_, hn⟩ | ⟨g, cap', cur, hv, hb, hg, _⟩
  · omega
  · cases hv
    have hc := h.cells (g := g) rfl
    have hadd : ∀ j, (⟨g, 0, none⟩ : Addr).add j = ⟨g, j, none⟩ := fun j => by unfold Addr.add; split <;> simp_all
    refine ⟨g, 0, rfl, (Array.getElem?_eq_some_iff.1 hg).1, fun i hi => ?_⟩
    rw [Nat.zero_add]
    refine ⟨?_, ?_, ?_, ?_, ?_, ?_, ?_⟩
    · rw [← hadd]; exact hc _ _ ((ndsL_at ns i hi 0 (by decide)).trans rfl)
    · rw [← hadd]; exact hc _ _ ((ndsL_at ns i hi 1 (by decide)).trans rfl)
    · rw [← hadd]; exact hc _ _ ((ndsL_at ns i hi 2 (by decide)).trans rfl)
    · rw [← hadd]; exact hc _ _ ((ndsL_at ns i hi 3 (by decide)).trans rfl)
    · rw [← hadd]; exact hc _ _ ((ndsL_at ns i hi 4 (by decide)).trans rfl)
    · rw [← hadd]; exact hc _ _ ((ndsL_at ns i hi 5 (by decide)).trans rfl)
    · rw [← hadd]; exact hc _ _ ((ndsL_at ns i hi 6 (by decide)).trans rfl)
end Go.Proofs.YtekfnnfphhoeoaaGreatDoor

