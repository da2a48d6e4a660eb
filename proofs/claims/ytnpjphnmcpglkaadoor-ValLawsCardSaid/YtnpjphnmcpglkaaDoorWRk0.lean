import Derived.Test.YtnpjphnmcpglkaaDoorK
import Derived.Test.YtnpjphnmcpglkaaDoorR1
import Derived.Test.YtnpjphnmcpglkaaDoorR2
import Derived.Test.YtnpjphnmcpglkaaDoorR4
import Derived.Test.YtnpjphnmcpglkaaDoorAN
import Derived.WalkKit
import Derived.ProofKit
import Derived.OpenShut
import Derived.Handy
import Derived.BigQuiet
import Derived.Lib.Hide
import Derived.Deep.DeepCutAuto
import Derived.Deep.RegionHeld3
import Derived.Lib.Strings
import Derived.WalkLawsBesides
namespace Go.Proofs.YtnpjphnmcpglkaaDoor
open Go.RowKit
/-- An operation on two that can't be: its error. -/
theorem errR_def (e : Int) : rkV (errR e) = .tuple #[.agg #[.int .i64 0, .int .i64 0, .string ⟨#[]⟩], .int .i64 e] := rfl
/-- The two values' boxes, and what there was. -/
structure Box2 (w : World) (ka na : Int) (sa : ByteArray) (kb nb : Int) (sb : ByteArray) (wx : World) : Prop where
  a : C3 wx w.heap.size ka na sa
  b : C3 wx (w.heap.size + 1) kb nb sb
  below : Below w.heap.size w wx
theorem box2_keep {w wx wy : World} {ka na : Int} {sa : ByteArray} {kb nb : Int} {sb : ByteArray} (h : Box2 w ka na sa kb nb sb wx) (hb : Below wx.heap.size wx wy) : Box2 w ka na sa kb nb sb wy :=
  ⟨c3_keep h.a hb, c3_keep h.b hb, h.below.trans (hb.mono h.below.size)⟩
/-- A struct's three cells may be written. -/
def F3 (w : World) (b : Nat) : Prop := w.frozen? ⟨b, 0, none⟩ = false ∧ w.frozen? ⟨b, 1, none⟩ = false ∧ w.frozen? ⟨b, 2, none⟩ = false
/-- A value stored into a struct. -/
def put3 (w : World) (b : Nat) (k n : Int) (s : ByteArray) : World := ((w.setCell ⟨b, 0, none⟩ (.int .i64 k)).setCell ⟨b, 1, none⟩ (.int .i64 n)).setCell ⟨b, 2, none⟩ (.string s)
theorem addr_ne {b i j : Nat} (h : i ≠ j) : (⟨b, i, none⟩ : Addr) ≠ ⟨b, j, none⟩ := fun e => h (by injection e)
theorem addr_ne_b {b c i j : Nat} (h : b ≠ c) : (⟨b, i, none⟩ : Addr) ≠ ⟨c, j, none⟩ := fun e => h (by injection e)
theorem c3_put {w : World} {b : Nat} {k n : Int} {s : ByteArray} (h : C3 w b k n s) (k' n' : Int) (s' : ByteArray) : C3 (put3 w b k' n' s') b k' n' s' := by
  obtain ⟨h0, h1, h2, h3⟩ := h
  have e1 : (w.setCell ⟨b, 0, none⟩ (.int .i64 k')).cell? ⟨b, 1, none⟩ = some (.int .i64 n) := by rw [World.cell?_setCell_other _ _ _ _ (addr_ne (by decide))]; exact h2
  have e2 : ((w.setCell ⟨b, 0, none⟩ (.int .i64 k')).setCell ⟨b, 1, none⟩ (.int .i64 n')).cell? ⟨b, 2, none⟩ = some (.string s) := by
    rw [World.cell?_setCell_other _ _ _ _ (addr_ne (by decide)), World.cell?_setCell_other _ _ _ _ (addr_ne (by decide))]; exact h3
  refine ⟨by simp only [put3, World.size_setCell]; exact h0, ?_, ?_, World.cell?_setCell_same _ _ _ e2⟩
  · show (World.setCell _ _ _).cell? _ = _
    rw [World.cell?_setCell_other _ _ _ _ (addr_ne (by decide)), World.cell?_setCell_other _ _ _ _ (addr_ne (by decide))]
    exact World.cell?_setCell_same _ _ _ h1
  · show (World.setCell _ _ _).cell? _ = _
    rw [World.cell?_setCell_other _ _ _ _ (addr_ne (by decide))]
    exact World.cell?_setCell_same _ _ _ e1
theorem c3_put_other {w : World} {b c : Nat} {k n : Int} {s : ByteArray} (h : C3 w c k n s) (hne : b ≠ c) (k' n' : Int) (s' : ByteArray) : C3 (put3 w b k' n' s') c k n s := by
  obtain ⟨h0, h1, h2, h3⟩ := h
  refine ⟨by simp only [put3, World.size_setCell]; exact h0, ?_, ?_, ?_⟩
  all_goals
    show (World.setCell _ _ _).cell? _ = _
    rw [World.cell?_setCell_other _ _ _ _ (addr_ne_b hne), World.cell?_setCell_other _ _ _ _ (addr_ne_b hne), World.cell?_setCell_other _ _ _ _ (addr_ne_b hne)]
    assumption
theorem box2_put {w wx : World} {ka na : Int} {sa : ByteArray} {kb nb : Int} {sb : ByteArray} (h : Box2 w ka na sa kb nb sb wx) {b : Nat} (hb : w.heap.size + 1 < b) (k' n' : Int) (s' : ByteArray) : Box2 w ka na sa kb nb sb (put3 wx b k' n' s') :=
  ⟨c3_put_other h.a (by omega) _ _ _, c3_put_other h.b (by omega) _ _ _, ((h.below.setCell (by show _ ≤ b; omega) _).setCell (by show _ ≤ b; omega) _).setCell (by show _ ≤ b; omega) _⟩
end Go.Proofs.YtnpjphnmcpglkaaDoor
