/- A token (a struct of a number, a text, a number and a number), and a slice of texts, that came in. -/
import Derived.Test.YtidbmampjjgkpaaDoorChecked
import Derived.Test.YtidbmampjjgkpaaDoorOV
import Derived.Test.YtidbmampjjgkpaaDoorWIs
import Derived.WalkKit
import Derived.ProofKit
import Derived.OpenShut
import Derived.SliceStrings
import Derived.Lib.SmallJoins
namespace Go.Proofs.YtidbmampjjgkpaaDoor
open Go.RowKit Go.ChangeShapes Go.WideShapes Go.Joins
set_option maxRecDepth 100000 in
theorem open_tok {H : Type} {enc : TypeId × Value → H} {w : World} {base b0 : Nat} {spare : Nat → Bool} {held : Bool} {r : Reach} {v : Value} {d : DataW H} {p : List MemPlace}
    (hv : Value.okWide Tryd.prog w r b0 58 v) (h : DataW.Trod enc Tryd.prog w base spare held 58 v d p) :
    ∃ (k : Int) (s : ByteArray) (n a : Int), v = .agg #[.int .i64 k, .string s, .int .i64 n, .int .i64 a] ∧ s.size ≤ maxLen := by
  obtain ⟨v0, v1, v2, v3, y0, y1, y2, y3, m, rfl, -, -, h0, h1, h2, h3⟩ := open_agg4 Tryd.underlying58 (by kernel_rfl) (by kernel_rfl) hv h
  obtain ⟨k, e0, -, _⟩ := DataW.trod_int Tryd.underlying3 h0
  obtain ⟨s, e1, -, w1⟩ := DataW.trod_string Tryd.underlying9 h1
  obtain ⟨n, e2, -, _⟩ := DataW.trod_int Tryd.underlying2 h2
  obtain ⟨a, e3, -, _⟩ := DataW.trod_int Tryd.underlying3 h3
  simp only [List.cons.injEq, and_true] at e0 e1 e2 e3
  subst e0 e1 e2 e3
  exact ⟨k, s, n, a, rfl, w1⟩
/-- A slice of texts: none, or its texts lie where it says. -/
def StrsV (w : World) (v : Value) : Prop := v = .slice none 0 0 ∨ ∃ (a : Addr) (len cap : Nat) (ss : List ByteArray), v = .slice (some a) len cap ∧ len ≤ maxLen ∧ len ≤ ss.length ∧ ∀ i, i < ss.length → w.cell? (a.add i) = some (.string (ss.getD i ByteArray.empty))
set_option maxRecDepth 100000 in
theorem open_strsV {H : Type} {enc : TypeId × Value → H} {w : World} {base b0 : Nat} {spare : Nat → Bool} {held : Bool} {r : Reach} {v : Value} {d : DataW H} {p : List MemPlace}
    (hv : Value.okWide Tryd.prog w r b0 61 v) (h : DataW.Trod enc Tryd.prog w base spare held 61 v d p) : StrsV w v := by
  obtain ⟨a0, len, cap, rfl⟩ := okWide_slice Tryd.underlying61 hv
  obtain ⟨fuel, hf⟩ := h
  rcases open_strings Tryd.underlying61 Tryd.underlying9 (by kernel_rfl) hf with ⟨hcs, _⟩ | ⟨a, len', cap', ss, hcs, _, hl, hm, hz, _, hcell, _⟩
  · left
    exact (List.cons.inj (show [Value.slice a0 len cap] = [_] from hcs)).1
  · right
    refine ⟨a, len', cap', ss, (List.cons.inj (show [Value.slice a0 len cap] = [_] from hcs)).1, Nat.le_trans hl hm, ?_, hcell⟩
    rw [hz]
    split
    · exact hl
    · exact Nat.le_refl _
/-- The walk of TokIs: a token is one of some texts just if it is a word or a sign that has one of them. -/
theorem tokis_walk (k : Int) (x : ByteArray) (n a : Int) (v : Value) (w : World) (hv : StrsV w v) (hw : Lb w) :
    Calls Tryd.prog 12 #[.agg #[.int .i64 k, .string x, .int .i64 n, .int .i64 a], v] w (Ret (.bool true) w) := by
  rcases hv with rfl | ⟨ad, len, cap, ss, rfl, hm, hl, hc⟩
  · exact tokis_short k x n a none [] 0 (Nat.zero_le _) w hw (fun i h => absurd h (Nat.not_lt_zero _))
  · by_cases h : 50 < len
    · exact tokis_long k x n a (some ad) len cap hm h w hw
    · have e : (ss.take len).length = len := by rw [List.length_take]; omega
      have := tokis_short k x n a (some ad) (ss.take len) cap (by omega) w hw (fun i hi => by
        refine ⟨ad, rfl, ?_⟩
        have hi' : i < ss.length := by omega
        rw [hc i hi', List.getElem_take, List.getD_eq_getElem?_getD, List.getElem?_eq_getElem hi']
        rfl)
      rw [e] at this
      exact this
end Go.Proofs.YtidbmampjjgkpaaDoor
