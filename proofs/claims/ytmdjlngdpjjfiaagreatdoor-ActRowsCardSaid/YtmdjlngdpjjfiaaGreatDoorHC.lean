/- A cell behind stores, found by instances. -/
import Derived.Test.YtmdjlngdpjjfiaaGreatDoorZ1
import Derived.WalkKit
import Derived.ProofKit
import Derived.OpenShut
import Derived.Handy
namespace Go.Proofs.YtmdjlngdpjjfiaaGreatDoor
open Go.RowKit
/-- A cell is there: found by instances, also behind stores. -/
class HasC (w : World) (b i : Nat) : Prop where
  has : (w.cell? ⟨b, i, none⟩).isSome = true
theorem hasC_of {w : World} {b i : Nat} {v : Value} (h : w.cell? ⟨b, i, none⟩ = some v) : HasC w b i := ⟨by rw [h]; rfl⟩
instance hasC_set (w : World) (b i : Nat) (a : Addr) (v : Value) [h : HasC w b i] : HasC (w.setCell a v) b i := ⟨by
  obtain ⟨u, hu⟩ := Option.isSome_iff_exists.1 h.has
  obtain ⟨u', hu'⟩ := cell?_setCell_some (p := a) (x := v) hu
  rw [hu']
  rfl⟩
@[go_sem] theorem cell_setI (w : World) (b i : Nat) (v : Value) [h : HasC w b i] : (w.setCell ⟨b, i, none⟩ v).cell? ⟨b, i, none⟩ = some v := World.cell?_setCell_same' w ⟨b, i, none⟩ v h.has
end Go.Proofs.YtmdjlngdpjjfiaaGreatDoor
