/- Regions that draw their order beside calls that make memory. No program. -/
import Derived.Test.YthpofpndlkhciaaG0
import Derived.WalkKit
import Derived.ProofKit
import Derived.OpenShut
import Derived.Handy
import Derived.BigQuiet
import Derived.Lib.Hide
import Derived.Lib.QuietBelow
namespace Go.Proofs.Ythpofpndlkhciaa
open Go.RowKit Go.Sort

theorem le_sizeA {n : Nat} {w : World} {o : Obj} (h : n ≤ w.heap.size) : n ≤ (w.alloc o).heap.size := by rw [World.size_alloc]; omega
theorem le_sizeC {n : Nat} {w : World} {a : Addr} {v : Value} (h : n ≤ w.heap.size) : n ≤ (w.setCell a v).heap.size := by rw [World.size_setCell]; exact h
theorem le_sizeD {n : Nat} {w : World} (h : n ≤ w.heap.size) : n ≤ w.drew.heap.size := h
theorem le_sizeN {n k : Nat} {w : World} (h : n ≤ w.heap.size) : n ≤ (w.drewN k).heap.size := h
/-- A region that draws its order, whose operations only read, and whose callees leave what there was. -/
theorem wp_region_G {P : Program} {id : Nat} {Q : Exit → Act → World → Prop} {a : Act} {w : World} {l : List Oper} (hm : P.follows .mixedOrders = true) (hB : Region.lexB .any l.toArray = true)
    (h : wpQuiet P l.toArray (fun w' => ∃ p, w' = G p w) (fun a' => ∀ w', (∃ p, w' = G p w) → Q .normal a' w') l a) : (Code.region id l.toArray true).wp P Q a w :=
  wp_region_quiet_below hm hB h
theorem quietG {P : Program} {f : FuncId} {args : Array Value} {w : World} {p : Regrown} {v : Value} (h : Calls P f args (G p w) (Ret v (G p w))) :
    Calls P f args (G p w) fun e w'' => e = .returned v ∧ ∃ q, w'' = G q w :=
  h.mono fun _ _ hr => by
    obtain ⟨he, q, hq⟩ := hr.out
    exact ⟨he, pq q p, by rw [hq, G_G]⟩
theorem quietGW {P : Program} {f : FuncId} {args : Array Value} {w : World} {p : Regrown} {v : Value} (h : Calls P f args (G p w) (RetW v (G p w))) :
    Calls P f args (G p w) fun e w'' => e = .returned v ∧ ∃ q, w'' = G q w := quietG (h.mono fun _ _ hr => hr.ret)
/-- Block n lies in the world: found by instances, however many blocks and calls stand between. -/
class InW (n : Nat) (w : World) : Prop where
  lt : n < w.heap.size
instance inW_new (w : World) (o : Obj) : InW w.heap.size (w.alloc o) := ⟨by simp⟩
instance inW_alloc (n : Nat) (w : World) (o : Obj) [h : InW n w] : InW n (w.alloc o) := ⟨by have := h.lt; simp; omega⟩
instance inW_next (n : Nat) (w : World) (o : Obj) [h : InW n w] : InW (n + 1) (w.alloc o) := ⟨by have := h.lt; simp; omega⟩
instance inW_G (n : Nat) (w : World) (p : Regrown) [h : InW n w] : InW n (G p w) := ⟨Nat.lt_of_lt_of_le h.lt (belowG0 p w).size⟩
instance inW_drew (n : Nat) (w : World) [h : InW n w] : InW n w.drew := ⟨h.lt⟩
instance inW_drewN (n k : Nat) (w : World) [h : InW n w] : InW n (w.drewN k) := ⟨h.lt⟩
instance inW_set (n : Nat) (w : World) (a : Addr) (v : Value) [h : InW n w] : InW n (w.setCell a v) := ⟨by rw [World.size_setCell]; exact h.lt⟩
@[go_sem] theorem cell_GI (p : Regrown) (w : World) (n i : Nat) [h : InW n w] : (G p w).cell? ⟨n, i, none⟩ = w.cell? ⟨n, i, none⟩ := cell_G p w n i h.lt
@[go_sem] theorem frozen_GI (p : Regrown) (w : World) (n i : Nat) [h : InW n w] : (G p w).frozen? ⟨n, i, none⟩ = w.frozen? ⟨n, i, none⟩ := frozen_G p w n i h.lt
@[go_sem] theorem setCell_GI (p : Regrown) (w : World) (n i : Nat) (v : Value) [h : InW n w] : (G p w).setCell ⟨n, i, none⟩ v = G p (w.setCell ⟨n, i, none⟩ v) := setCell_G p w n i v h.lt
@[go_sem] theorem cell_allocI (w : World) (o : Obj) (n i : Nat) [h : InW n w] : (w.alloc o).cell? ⟨n, i, none⟩ = w.cell? ⟨n, i, none⟩ := World.cell?_alloc_past o n i h.lt
@[go_sem] theorem frozen_allocI (w : World) (o : Obj) (n i : Nat) [h : InW n w] : (w.alloc o).frozen? ⟨n, i, none⟩ = w.frozen? ⟨n, i, none⟩ := World.frozen?_alloc_past o n i h.lt
@[go_sem] theorem setCell_allocI (w : World) (o : Obj) (n i : Nat) (v : Value) [h : InW n w] : (w.alloc o).setCell ⟨n, i, none⟩ v = (w.setCell ⟨n, i, none⟩ v).alloc o := World.setCell_alloc_past o n i v h.lt
@[go_sem] theorem lt_I (w : World) (n : Nat) [h : InW n w] : (n < w.heap.size) = True := eq_true h.lt
end Go.Proofs.Ythpofpndlkhciaa

