/- From a row's list of laid variables, and the world's shape, to what a lexer's walk asks. -/
import Derived.Test.YtidbmampjjgkpaaDoorT4
import Derived.Test.YtidbmampjjgkpaaDoorEB
import Derived.Test.YtidbmampjjgkpaaDoorRows
import Derived.Lib.LaidTab
import Derived.Stop.LaidErr
import Derived.Shelf.Vars
namespace Go.Proofs.YtidbmampjjgkpaaDoor
open Go.RowKit Go.Lib
/-- An array of texts, as a row lists it. -/
def textsD {H : Type} (ls : List (List UInt8)) : DataW H := .agg (ls.map fun l => .lit (.string l))
theorem cells_of_texts {H : Type} {enc : TypeId × Value → H} {P : Program} {w : World} {base : Nat} {sp : Nat → Bool} {held : Bool} {fuel : Nat} {t e : TypeId} {n : Nat} {cs : List Value} {ls : List (List UInt8)} {p : List MemPlace}
    (ht : P.underlying t = some (.array n e)) (he : P.underlying e = some .string) (hce : P.cellsOf e = 1) (hct : P.cellsOf t = n)
    (h : DataW.trod enc P w base sp held fuel t cs = some (textsD ls, p)) : cs = ls.map fun l => Value.string ⟨l.toArray⟩ := by
  cases fuel with
  | zero => simp [DataW.trod] at h
  | succ fuel =>
    simp only [DataW.trod, ht, hce, hct, Nat.mul_one] at h
    split at h
    · rename_i hl
      obtain ⟨xs, hm, hx⟩ := Option.map_eq_some_iff.1 h
      have hxs : xs.map (·.1) = ls.map fun l => (DataW.lit (.string l) : DataW H) := by
        have := congrArg Prod.fst hx
        simpa [textsD] using this
      have hxl : xs.length = n := by simpa using mapM_length hm
      have hll : ls.length = n := by
        have := congrArg List.length hxs
        simp at this
        omega
      refine List.ext_getElem? fun i => ?_
      rcases Nat.lt_or_ge i n with hi | hi
      · obtain ⟨b, hb, hf⟩ := mapM_at hm i i (by simp [hi])
        obtain ⟨z, hc, rfl, _⟩ := DataW.trod_string he hf
        have h1 : cs[i]? = some (.string z) := by
          have := congrArg (·[0]?) hc
          simpa [List.getElem?_take, List.getElem?_drop] using this
        have h2 : (ls.map fun l => (DataW.lit (.string l) : DataW H))[i]? = some (DataW.lit (.string z.data.toList)) := by rw [← hxs]; simp [hb]
        rw [List.getElem?_map] at h2
        obtain ⟨l, hl', he'⟩ := Option.map_eq_some_iff.1 h2
        simp only [DataW.lit.injEq, Lit.string.injEq] at he'
        rw [h1, List.getElem?_map, hl', he']
        rfl
      · rw [List.getElem?_eq_none (by omega), List.getElem?_eq_none (by simp; omega)]
    · cases h
theorem maxl_of {W : World} (h : W.ShapedOpen Tryd.prog) : MaxL W :=
  cell_of_shapedOpen_int (P := Tryd.prog) (g := 6) (t := 3) (zero := #[.int .i64 0]) h (of_decide_eq_true (by kernel_rfl)) (by kernel_rfl) rfl (by kernel_rfl) (by kernel_rfl) Tryd.underlying3
theorem lb_of {W : World} (hL : laidMetH Tryd.prog Rows.tokLexesRow.laid W) (hS : W.ShapedOpen Tryd.prog) : Lb W := by
  have h4 := laidMet.tail (laidMet.tail (laidMet.tail (laidMet.tail hL)))
  have h6 := laidMet.tail (laidMet.tail h4)
  refine ⟨maxl_of hS, ?_, ?_⟩
  · obtain ⟨a, s, h, _⟩ := laid_sentinel (g := 3) h4 (by kernel_rfl) (by kernel_rfl) Tryd.underlying89 err_row Tryd.underlying142 Tryd.underlying144 rfl rfl Tryd.underlying9 (by kernel_rfl) (by kernel_rfl)
    obtain ⟨b, t, k, _⟩ := laid_sentinel (g := 2) (laidMet.tail h4) (by kernel_rfl) (by kernel_rfl) Tryd.underlying89 err_row Tryd.underlying142 Tryd.underlying144 rfl rfl Tryd.underlying9 (by kernel_rfl) (by kernel_rfl)
    exact ⟨⟨_, _, k⟩, _, _, h⟩
  · obtain ⟨ps, ⟨g', t', cs, fuel, p, q, hg', ht', hvar, hd, _, _⟩, _⟩ := h6
    obtain rfl := Option.some.inj (sg_global.symm.trans hg')
    obtain rfl := Option.some.inj ((show (Tryd.prog.globals[0]?).map (·.type) = some 118 by kernel_rfl).symm.trans ht')
    unfold Sg
    rw [hvar]
    have := cells_of_texts (ls := signsL) Tryd.underlying118 Tryd.underlying9 (by kernel_rfl) (by kernel_rfl) hd
    congr 1
    apply Array.ext'
    rw [this]
    rfl
end Go.Proofs.YtidbmampjjgkpaaDoor
