/- tok's own words, beside the reference: one token alone, what a word means, a name, is. -/
import Derived.Test.YtphdnfijefddlaaDoorNM
import Derived.WalkKit
import Derived.ProofKit
import Derived.OpenShut
import Derived.Handy
import Derived.BigQuiet
import Derived.OwnWalk
import Derived.Lib.Hide
import Derived.WalkSmall
import Derived.WalkLawsBesides
namespace Go.Proofs.YtphdnfijefddlaaDoor
open Go.RowKit
/-- Lex's answer at a line of one token. -/
def OneIs (t : Tk) (w : World) (e : Ending) (w' : World) : Prop := ∃ g cap, e = .returned (.tuple #[.slice (some ⟨g, 0, none⟩) 1 cap, .int .i64 0, .int .i64 0]) ∧ g < w'.heap.size ∧ w'.cell? ⟨g, 0, none⟩ = some (.int .i64 t.k) ∧ w'.cell? ⟨g, 1, none⟩ = some (.string ⟨t.s.toArray⟩) ∧ Below w.heap.size w w'
theorem one_of {t : Tk} {w : World} {e : Ending} {w' : World} (h : SlIs [t] w e w') : OneIs t w e w' := by
  obtain ⟨ao, cap, he, h1, hb⟩ := h
  obtain ⟨g, rfl, hg, ht⟩ := h1 Nat.one_pos
  obtain ⟨a0, a1, _, _⟩ := ht 0 Nat.one_pos
  exact ⟨g, cap, he, hg, a0, a1, hb⟩
/-- .. and at one of none, or more than one. -/
def NotOneIs (w : World) (e : Ending) (w' : World) : Prop := ∃ (x : Int) (j : Int) (ao : Option Addr) (n cap : Nat), e = .returned (.tuple #[.slice ao n cap, .int .i64 x, .int .i64 j]) ∧ ((x == 0) = false ∨ x = 0 ∧ ((n : Int) == 1) = false) ∧ Below w.heap.size w w'
theorem notOne_err {ty : TypeId} {l : List UInt8} {w : World} {e : Ending} {w' : World} {x : Int} {j : Nat} (h : lexT 120 0 l = .error (x, j)) (hr : LexIs ty l w e w') : NotOneIs w e w' := by
  obtain ⟨he, hb⟩ := (lexIs_err h).mp hr
  exact ⟨x, _, none, 0, 0, he, .inl (lexT_err h), hb⟩
theorem notOne_ok {ty : TypeId} {l : List UInt8} {w : World} {e : Ending} {w' : World} {ts : List Tk} (h : lexT 120 0 l = .ok ts) (hn : ts.length ≠ 1) (hr : LexIs ty l w e w') : NotOneIs w e w' := by
  obtain ⟨ao, cap, he, _, hb⟩ := lex_sl h hr
  exact ⟨0, 0, ao, ts.length, cap, he, .inr ⟨rfl, by rw [beq_eq_false_iff_ne]; omega⟩, hb⟩
theorem txt_eq (t : Tk) (s : ByteArray) : ((⟨t.s.toArray⟩ : ByteArray).toList == s.toList) = decide (t.s = s.data.toList) := by
  rw [Lib.toList_data, Lib.toList_data, Bool.eq_iff_iff, beq_iff_eq, decide_eq_true_eq]
def nmB (l : List UInt8) : Bool := aloneK l == 1 && !meansB l
/-- The texts zs lie where the slice says. -/
def Txts (w : World) (ao : Option Addr) (zs : List ByteArray) : Prop := ∀ i (h : i < zs.length), ∃ a, ao = some a ∧ w.cell? (a.add i) = some (.string zs[i])
theorem txts_below {w w' : World} {ao : Option Addr} {zs : List ByteArray} (h : Txts w ao zs) (hb : Below w.heap.size w w') : Txts w' ao zs := by
  intro i hi
  obtain ⟨a, ha, hc⟩ := h i hi
  exact ⟨a, ha, (hb.cell (World.block_lt_of_cell? _ _ hc)).trans hc⟩
end Go.Proofs.YtphdnfijefddlaaDoor

