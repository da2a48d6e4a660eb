/- Worlds with blocks of a callee's own laid behind them: what the walk reads in them, and what it writes. No program. -/
import Derived.WalkKit
import Derived.ProofKit
import Derived.OpenShut
import Derived.Handy
import Derived.BigQuiet
import Derived.Lib.Hide
import Derived.Lib.QuietBelow
namespace Go.Proofs.YtidbmampjjgkpaaDoor
open Go.RowKit Go.Sort

/-- The world with some blocks more, and whatever count of draws. -/
def G (p : Regrown) (w : World) : World := grow (redrawn w p.d) p.os
theorem toG {w w' : World} (h : Below w.heap.size w w') : ∃ p, w' = G p w := regrown_of_below h
theorem belowG0 (p : Regrown) (w : World) : Below w.heap.size w (G p w) := below_regrown w p.d p.os
theorem belowG {B : Nat} {a w : World} {p : Regrown} (h : Below B a w) (hB : B ≤ w.heap.size) : Below B a (G p w) := h.trans ((belowG0 p w).mono hB)
theorem belowN {B : Nat} {a w : World} (h : Below B a w) (n : Nat) : Below B a (w.drewN n) := ⟨h.os, h.tape, h.output, h.size, h.block⟩
theorem le_sizeG {n : Nat} {p : Regrown} {w : World} (h : n ≤ w.heap.size) : n ≤ (G p w).heap.size := Nat.le_trans h (belowG0 p w).size
@[go_sem] theorem G_drew (p : Regrown) (w : World) : G p w.drew = G p w := rfl
@[go_sem] theorem G_drewN (p : Regrown) (w : World) (n : Nat) : G p (w.drewN n) = G p w := rfl
@[go_sem] theorem cell_G (p : Regrown) (w : World) (n i : Nat) (h : n < w.heap.size) : (G p w).cell? ⟨n, i, none⟩ = w.cell? ⟨n, i, none⟩ := (belowG0 p w).cell (p := ⟨n, i, none⟩) h
@[go_sem] theorem frozen_G (p : Regrown) (w : World) (n i : Nat) (h : n < w.heap.size) : (G p w).frozen? ⟨n, i, none⟩ = w.frozen? ⟨n, i, none⟩ := (belowG0 p w).frozen (p := ⟨n, i, none⟩) h
@[go_sem] theorem lt_G (p : Regrown) (w : World) (n : Nat) (h : n < w.heap.size) : (n < (G p w).heap.size) = True := eq_true (Nat.lt_of_lt_of_le h (belowG0 p w).size)
@[go_sem] theorem le_G (p : Regrown) (w : World) (n : Nat) (h : n ≤ w.heap.size) : (n ≤ (G p w).heap.size) = True := eq_true (Nat.le_trans h (belowG0 p w).size)
@[go_sem] theorem setCell_G (p : Regrown) (w : World) (n i : Nat) (v : Value) (h : n < w.heap.size) : (G p w).setCell ⟨n, i, none⟩ v = G p (w.setCell ⟨n, i, none⟩ v) := by
  unfold G grow redrawn World.setCell
  congr 1
  apply Array.ext_getElem?
  intro k
  simp only [Array.getElem?_modify, Array.getElem?_append, Array.size_modify]
  by_cases hk : k < w.heap.size
  · simp [hk]
  · have : n ≠ k := by omega
    simp [hk, this]
/-- Two calls behind one another. -/
def pq (p q : Regrown) : Regrown := ⟨p.d, q.os ++ p.os⟩
@[go_sem] theorem G_G (p q : Regrown) (w : World) : G p (G q w) = G (pq p q) w := by
  simp [G, pq, grow, redrawn, Array.append_assoc]
theorem le_aG {n : Nat} {q : Regrown} {w : World} {o : Obj} (h : n ≤ w.heap.size) : n ≤ ((G q w).alloc o).heap.size := by
  rw [World.size_alloc]; exact Nat.le_succ_of_le (le_sizeG h)
@[go_sem] theorem lt_GaG (p q : Regrown) (w : World) (o : Obj) (n : Nat) (h : n < w.heap.size) : (n < (G p ((G q w).alloc o)).heap.size) = True :=
  eq_true (Nat.lt_of_lt_of_le (Nat.lt_of_lt_of_le h (le_aG (Nat.le_refl _))) (belowG0 p _).size)
@[go_sem] theorem le_GaG (p q : Regrown) (w : World) (o : Obj) (n : Nat) (h : n ≤ w.heap.size) : (n ≤ (G p ((G q w).alloc o)).heap.size) = True :=
  eq_true (Nat.le_trans (Nat.le_trans h (le_aG (Nat.le_refl _))) (belowG0 p _).size)
/- An old block's number is below the new blocks' numbers, as the walk writes them. -/
@[go_sem] theorem old_le0 (w : World) (n : Nat) (h : n < w.heap.size) : (n ≤ w.heap.size) = True := eq_true (Nat.le_of_lt h)
@[go_sem] theorem old_le1 (w : World) (n : Nat) (h : n < w.heap.size) : (n ≤ w.heap.size + 1) = True := eq_true (by omega)
@[go_sem] theorem old_le2 (w : World) (n : Nat) (h : n < w.heap.size) : (n ≤ w.heap.size + 1 + 1) = True := eq_true (by omega)
@[go_sem] theorem old_le3 (w : World) (n : Nat) (h : n < w.heap.size) : (n ≤ w.heap.size + 1 + 1 + 1) = True := eq_true (by omega)
@[go_sem] theorem old_le4 (w : World) (n : Nat) (h : n < w.heap.size) : (n ≤ w.heap.size + 1 + 1 + 1 + 1) = True := eq_true (by omega)
@[go_sem] theorem old_lt1 (w : World) (n : Nat) (h : n < w.heap.size) : (n < w.heap.size + 1) = True := eq_true (by omega)
@[go_sem] theorem old_lt2 (w : World) (n : Nat) (h : n < w.heap.size) : (n < w.heap.size + 1 + 1) = True := eq_true (by omega)
@[go_sem] theorem old_lt3 (w : World) (n : Nat) (h : n < w.heap.size) : (n < w.heap.size + 1 + 1 + 1) = True := eq_true (by omega)
@[go_sem] theorem old_lt4 (w : World) (n : Nat) (h : n < w.heap.size) : (n < w.heap.size + 1 + 1 + 1 + 1) = True := eq_true (by omega)
/-- What a call comes to: it returns v, and nothing that there was has turned. -/
def Ret (v : Value) (w : World) (e : Ending) (w' : World) : Prop := e = .returned v ∧ Below w.heap.size w w'
/-- It returns v, and leaves the world as it was. -/
def RetW (v : Value) (w : World) (e : Ending) (w' : World) : Prop := e = .returned v ∧ w = w'
theorem Ret.out {v : Value} {w w' : World} {e : Ending} (h : Ret v w e w') : e = .returned v ∧ ∃ p, w' = G p w := ⟨h.1, toG h.2⟩
theorem RetW.ret {v : Value} {w w' : World} {e : Ending} (h : RetW v w e w') : Ret v w e w' := ⟨h.1, h.2 ▸ Below.refl _ _⟩
theorem ret_congr {v v' : Value} {w w' : World} {e : Ending} (h : Ret v w e w') (hv : v = v') : Ret v' w e w' := hv ▸ h
theorem ret_int {k : IntKind} {a b : Int} (h : a = b) : Ending.returned (.int k a) = .returned (.int k b) := by rw [h]
theorem ret_bl {a b : Bool} (h : a = b) : Ending.returned (.bool a) = .returned (.bool b) := by rw [h]
theorem ret_bool {a b : Bool} (h : a = b) : Value.bool a = Value.bool b := by rw [h]
theorem ret_num {k : IntKind} {a b : Int} (h : a = b) : Value.int k a = Value.int k b := by rw [h]
theorem ret_tup2 {a b a' b' : Value} (h1 : a = a') (h2 : b = b') : Ending.returned (.tuple #[a, b]) = Ending.returned (.tuple #[a', b']) := by rw [h1, h2]
end Go.Proofs.YtidbmampjjgkpaaDoor
