import Derived.Test.YtphdnfijefddlaaDoorT0
import Derived.Test.YtphdnfijefddlaaDoorSP
import Derived.Test.YtphdnfijefddlaaDoorRG
import Derived.Test.YtphdnfijefddlaaDoorShelf2
import Derived.WalkKit
import Derived.ProofKit
import Derived.OpenShut
import Derived.Handy
import Derived.BigQuiet
import Derived.Lib.Hide
import Derived.WalkSmall
import Derived.WalkLawsBesides
namespace Go.Proofs.YtphdnfijefddlaaDoor
open Go.RowKit
/-- The place where the library's greatest index stands holds a number. -/
def MaxL (w : World) : Prop := ∃ m, w.cell? ⟨0, 0, none⟩ = some (.int .i64 m)
theorem maxl_below {w w' : World} (h : MaxL w) (hb : Below w.heap.size w w') : MaxL w' := by
  obtain ⟨m, h⟩ := h
  exact ⟨m, (hb.cell (World.block_lt_of_cell? _ _ h)).trans h⟩
theorem slice_s (s : ByteArray) (a e : Nat) (hae : a ≤ e) (he : e ≤ s.size) (t : ByteArray) (ht : s.extract a e = t) (wx : World) :
    (Instr.slice 9 (.string s) (some (.int .i64 (a : Int))) (some (.int .i64 (e : Int))) none).run Tryd.prog wx = .ok (.string t) wx := by
  have := run_slice_string (P := Tryd.prog) wx 9 s .i64 .i64 a e Tryd.underlying9 (by omega) (by omega) (by omega)
  rw [this, show ((a : Int).toNat) = a from rfl, show ((e : Int).toNat) = e from rfl, ht]
/-- strings.Split at a dot. -/
def SplitIs (ps : List ByteArray) (w : World) (e : Ending) (w' : World) : Prop := ∃ g : Nat, e = .returned (.slice (some ⟨g, 0, none⟩) ps.length ps.length) ∧ g < w'.heap.size ∧
  (∀ i (h : i < ps.length), w'.cell? ⟨g, i, none⟩ = some (.string ps[i])) ∧ Below w.heap.size w w'
theorem split_any (t : ByteArray) (ht : t.size ≤ 2000000) (w : World) (hw : MaxL w) : Calls Tryd.prog 12 #[.string t, .string ⟨#[46]⟩] w (SplitIs (pieces t) w) := by
  obtain ⟨m, hm⟩ := hw
  refine (Any.strings_Split Tryd.lays146 (by kernel_rfl) t ⟨#[46]⟩ m w (by omega) hm (by decide)).mono fun e w' ⟨he, hw⟩ => ?_
  subst hw
  refine ⟨w.heap.size, ?_, by simp, fun i h => ?_, ?_⟩
  · rw [he, pieces_length]
  · rw [World.cell?_alloc_mark w _ _ (0, 0) i]
    simp only [pieces] at h ⊢
    simp [List.getElem?_map, List.getElem?_eq_getElem h]
  · exact (Below.refl _ w).alloc (Nat.le_refl _) _
theorem take_data (s : ByteArray) (a z : Nat) : (s.extract a (a + z)).data.toList = (s.data.toList.drop a).take z := by
  rw [Lib.extract_eq, Nat.add_sub_cancel_left]
end Go.Proofs.YtphdnfijefddlaaDoor

