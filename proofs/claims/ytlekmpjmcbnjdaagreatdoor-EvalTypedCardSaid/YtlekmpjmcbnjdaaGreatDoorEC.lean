/- eval: what is reckoned of sound values, in one. -/
import Derived.Test.YtlekmpjmcbnjdaaGreatDoorEA
import Derived.Test.YtlekmpjmcbnjdaaGreatDoorR1
import Derived.Test.YtlekmpjmcbnjdaaGreatDoorR2
import Derived.WalkKit
import Derived.ProofKit
import Derived.OpenShut
import Derived.Handy
import Derived.BigQuiet
import Derived.Lib.Hide
import Derived.WalkSmall
import Derived.WalkLawsBesides
namespace Go.Proofs.YtlekmpjmcbnjdaaGreatDoor
open Go.RowKit
theorem alone_of {op : Int} (h : op = 1 ∨ op = 2) : aloneB op = true := by rcases h with h | h <;> rw [h] <;> rfl
theorem alone_not {op : Int} (h : 3 ≤ op) : aloneB op = false := by
  unfold aloneB
  rw [Bool.or_eq_false_iff]
  exact ⟨beq_eq_false_iff_ne.mpr (by omega), beq_eq_false_iff_ne.mpr (by omega)⟩
theorem fin_t {op : Int} {a b : Rk} (h : resB op a.k b.k = true) : finR op a b = rk op a.k a.n a.s b.n b.s := by unfold finR; rw [if_pos h]
theorem fin_f {op : Int} {a b : Rk} (h : resB op a.k b.k = false) : finR op a b = errR 20 := by unfold finR; rw [h]; rfl
theorem ereckon1 (op : Int) (ho : op = 1 ∨ op = 2) (a : Rk) (ha : SoundV a) (w : World) :
    Calls Tryz.prog 66 #[.int .i64 op, .agg #[.int .i64 a.k, .int .i64 a.n, .string a.s], .slice none 0 0] w (Ret (rkV (finR op a (errR 0))) w) := by
  rcases hr : resB op a.k (errR 0).k
  · rw [fin_f hr]
    exact reckon1_bad op a.k a.n a.s (alone_of ho) hr w
  · rw [fin_t hr]
    exact reckon1_any op a.k a.n a.s 0 0 ⟨#[]⟩ ha.2.1 ha.2.2 (alone_of ho) hr w
theorem ereckon2 (op : Int) (ho : 3 ≤ op) (a b : Rk) (ha : SoundV a) (hb : SoundV b) (g : Nat) (w : World) (hg : g < w.heap.size) (c0 : w.cell? ⟨g, 0, none⟩ = some (.int .i64 b.k)) (c1 : w.cell? ⟨g, 1, none⟩ = some (.int .i64 b.n)) (c2 : w.cell? ⟨g, 2, none⟩ = some (.string b.s)) :
    Calls Tryz.prog 66 #[.int .i64 op, .agg #[.int .i64 a.k, .int .i64 a.n, .string a.s], .slice (some ⟨g, 0, none⟩) 1 1] w (Ret (rkV (finR op a b)) w) := by
  rcases hr : resB op a.k b.k
  · rw [fin_f hr]
    exact reckon2_bad op a.k a.n a.s b.k b.n b.s (alone_not ho) hr g w hg c0 c1 c2
  · rw [fin_t hr]
    exact reckon2_any op a.k a.n a.s b.k b.n b.s ha.2.1 hb.2.1 ha.2.2 hb.2.2 (alone_not ho) hr g w hg c0 c1 c2
end Go.Proofs.YtlekmpjmcbnjdaaGreatDoor

