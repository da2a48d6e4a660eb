/- Worlds with blocks of a callee's own laid behind them: what the walk reads in them, and what it writes. No program. -/
import Derived.WalkKit
import Derived.ProofKit
import Derived.OpenShut
import Derived.Handy
import Derived.BigQuiet
import Derived.Lib.Hide
import Derived.Lib.QuietBelow
namespace Go.Proofs.Ythpofpndlkhciaa
open Go.RowKit Go.Sort

/-- The world with some blocks more, and whatever count of draws. -/
def G (p : Regrown) (w : World) : World := grow (redrawn w p.d) p.os
theorem toG {w w' : World} (h : Below w.heap.size w w') : ∃ p, w' = G p w := regrown_of_below h
theorem belowG0 (p : Regrown) (w : World) : Below w.heap.size w (G p w) := below_regrown w p.d p.os
theorem belowG {B : Nat} {a w : World} {p : Regrown} (h : Below B a w) (hB : B ≤ w.heap.size) : Below B a (G p w) := h.trans ((belowG0 p w).mono hB)
theorem belowN {B : Nat} {a w : World} (h : Below B a w) (n : Nat) : Below B a (w.drewN n) := ⟨h.os, h.tape, h.output, h.size, h.block⟩
theorem le_sizeG {n : Nat} {p : Regrown} {w : World} (h : n ≤ w.heap.size) : n ≤ (G p w).heap.size := Nat.le_trans h (belowG0 p w).size
@[go_sem] theorem G_drew (p : Regrown) (w : World) : G p w.drew = G p w := rfl
@[go_sem] theorem G_drewN (p : Regrown) (w : World) (n : Nat) : G p (w.drewN n) = G p w := rfl
@[go_sem] theorem cell_G (p : Regrown) (w : World) (n i : Nat) (h : n < w.heap.size) : (G p w).cell? ⟨n, i, none⟩ = w.cell? ⟨n, i, none⟩ := (belowG0 p w).cell (p := ⟨n, i, none⟩) h
@[go_sem] theorem frozen_G (p : Regrown) (w : World) (n i : Nat) (h : n < w.heap.size) : (G p w).frozen? ⟨n, i, none⟩ = w.frozen? ⟨n, i, none⟩ := (belowG0 p w).frozen (p := ⟨n, i, none⟩) h
@[go_sem] theorem lt_G (p : Regrown) (w : World) (n : Nat) (h : n < w.heap.size) : (n < (G p w).heap.size) = True := eq_true (Nat.lt_of_lt_of_le h (belowG0 p w).size)
@[go_sem] theorem le_G (p : Regrown) (w : World) (n : Nat) (h : n ≤ w.heap.size) : (n ≤ (G p w).heap.size) = True := eq_true (Nat.le_trans h (belowG0 p w).size)
@[go_sem] theorem setCell_G (p : Regrown) (w : World) (n i : Nat) (v : Value) (h : n < w.heap.size) : (G p w).setCell ⟨n, i, none⟩ v = G p (w.setCell ⟨n, i, none⟩ v) := by
  unfold G grow redrawn World.setCell
  congr 1
  apply Array.ext_getElem?
  intro k
  simp only [Array.getElem?_modify, Array.getElem?_append, Array.size_modify]
  by_cases hk : k < w.heap.size
  · simp [hk]
  · have : n ≠ k := by omega
    simp [hk, this]
/-- Two calls behind one another. -/
def pq (p q : Regrown) : Regrown := ⟨p.d, q.os ++ p.os⟩
@[go_sem] theorem G_G (p q : Regrown) (w : World) : G p (G q w) = G (pq p q) w := by
  simp [G, pq, grow, redrawn, Array.append_assoc]
theorem le_aG {n : Nat} {q : Regrown} {w : World} {o : Obj} (h : n ≤ w.heap.size) : n ≤ ((G q w).alloc o).heap.size := by
  rw [World.size_alloc]; exact Nat.le_succ_of_le (le_sizeG h)
@[go_sem] theorem lt_GaG (p q : Regrown) (w : World) (o : Obj) (n : Nat) (h : n < w.heap.size) : (n < (G p ((G q w).alloc o)).heap.size) = True :=
  eq_true (Nat.lt_of_lt_of_le (Nat.lt_of_lt_of_le h (le_aG (Nat.le_refl _))) (belowG0 p _).size)
@[go_sem] theorem le_GaG (p q : Regrown) (w : World) (o : Obj) (n : Nat) (h : n ≤ w.heap.size) : (n ≤ (G p ((G q w).alloc o)).heap.size) = True :=
  eq_true (Nat.le_trans (Nat.le_trans h (le_aG (Nat.le_refl _))) (belowG0 p _).size)
/- An old block's number is below the new blocks' numbers, as the walk writes them. -/
@[go_sem] theorem old_le0 (w : World) (n : Nat) (h : n < w.heap.size) : (n ≤ w.heap.size) = True := eq_true (Nat.le_of_lt h)
@[go_sem] theorem old_le1 (w : World) (n : Nat) (h : n < w.heap.size) : (n ≤ w.heap.size + 1) = True := eq_true (by omega)
@[go_sem] theorem old_le2 (w : World) (n : Nat) (h : n < w.heap.size) : (n ≤ w.heap.size + 1 + 1) = True := eq_true (by omega)
@[go_sem] theorem old_le3 (w : World) (n : Nat) (h : n < w.heap.size) : (n ≤ w.heap.size + 1 + 1 + 1) = True := eq_true (by omega)
@[go_sem] theorem old_le4 (w : World) (n : Nat) (h : n < w.heap.size) : (n ≤ w.heap.size + 1 + 1 + 1 + 1) = True := eq_true (by omega)
@[go_sem] theorem old_lt1 (w : World) (n : Nat) (h : n < w.heap.size) : (n < w.heap.size + 1) = True := eq_true (by omega)
@[go_sem] theorem old_lt2 (w : World) (n : Nat) (h : n < w.heap.size) : (n < w.heap.size + 1 + 1) = True := eq_true (by omega)
@[go_sem] theorem old_lt3 (w : World) (n : Nat) (h : n < w.heap.size) : (n < w.heap.size + 1 + 1 + 1) = True := eq_true (by omega)
@[go_sem] theorem old_lt4 (w : World) (n : Nat) (h : n < w.heap.size) : (n < w.heap.size + 1 + 1 + 1 + 1) = True := eq_true (by omega)
/-- What a call comes to: it returns v, and nothing that there was has turned. -/
def Ret (v : Value) (w : World) (e : Ending) (w' : World) : Prop := e = .returned v ∧ Below w.heap.size w w'
/-- It returns v, and leaves the world as it was. -/
def RetW (v : Value) (w : World) (e : Ending) (w' : World) : Prop := e = .returned v ∧ w = w'
theorem Ret.out {v : Value} {w w' : World} {e : Ending} (h : Ret v w e w') : e = .returned v ∧ ∃ p, w' = G p w := ⟨h.1, toG h.2⟩
theorem RetW.ret {v : Value} {w w' : World} {e : Ending} (h : RetW v w e w') : Ret v w e w' := ⟨h.1, h.2 ▸ Below.refl _ _⟩
theorem ret_int {k : IntKind} {a b : Int} (h : a = b) : Ending.returned (.int k a) = .returned (.int k b) := by rw [h]
/-- A size that a world still has, by how it came. -/
inductive Lz (n : Nat) : World → Prop
  | g {p w} (h : Lz n w) : Lz n (G p w)
  | a {w o} (h : Lz n w) : Lz n (w.alloc o)
  | c {w a v} (h : Lz n w) : Lz n (w.setCell a v)
  | d {w} (h : Lz n w) : Lz n w.drew
  | n {w k} (h : Lz n w) : Lz n (w.drewN k)
  | i {w} (h : n ≤ w.heap.size) : Lz n w
theorem Lz.le {n : Nat} {w : World} (h : Lz n w) : n ≤ w.heap.size := by
  induction h with
  | g _ h => exact le_sizeG h
  | a _ h => rw [World.size_alloc]; omega
  | c _ h => rw [World.size_setCell]; exact h
  | d _ h => exact h
  | n _ h => exact h
  | i h => exact h
/-- What there was lies as it lay, by how the world came. -/
inductive Gw (B : Nat) (a : World) : World → Prop
  | r : Gw B a a
  | a {w o} (h : Gw B a w) (hB : Lz B w) : Gw B a (w.alloc o)
  | d {w} (h : Gw B a w) : Gw B a w.drew
  | n {w k} (h : Gw B a w) : Gw B a (w.drewN k)
  | c {w p v} (h : Gw B a w) (hp : B ≤ p.block) : Gw B a (w.setCell p v)
  | g {w p} (h : Gw B a w) (hB : Lz B w) : Gw B a (G p w)
  | i {w} (h : Below B a w) : Gw B a w
theorem gwT {B : Nat} {a w : World} (h : Gw B a w := by repeat' (first | (with_reducible first | exact .i (by assumption) | exact .i (Nat.le_refl _) | constructor) | go_size | (simp [go_sem]; done))) : Below B a w := by
  induction h with
  | r => exact Below.refl _ _
  | a _ hB h => exact h.alloc hB.le _
  | d _ h => exact h.drew
  | n _ h => exact belowN h _
  | c _ hp h => exact h.setCell hp _
  | g _ hB h => exact belowG h hB.le
  | i h => exact h
theorem lzT {n : Nat} {w : World} (h : Lz n w := by repeat' (first | (with_reducible first | exact .i (by assumption) | exact .i (Nat.le_refl _) | constructor) | go_size | (simp [go_sem]; done))) : n ≤ w.heap.size := h.le
end Go.Proofs.Ythpofpndlkhciaa

