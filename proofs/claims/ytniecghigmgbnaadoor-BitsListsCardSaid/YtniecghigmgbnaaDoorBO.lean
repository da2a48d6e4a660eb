/- Sets and numbers that came in, opened; the library's table for the least bit. -/
import Derived.Test.YtniecghigmgbnaaDoorBL
import Derived.Test.YtniecghigmgbnaaDoorOV
import Derived.Test.YtniecghigmgbnaaDoorAR
import Derived.WalkKit
import Derived.ProofKit
import Derived.OpenShut
import Derived.SliceStrings
import Derived.Lib.SmallJoins
import Derived.Lib.LaidTab
import Derived.Stop.LaidErr
namespace Go.Proofs.YtniecghigmgbnaaDoor
open Go.RowKit Go.ChangeShapes Go.WideShapes Go.Joins
theorem u64_of_wf {n : Int} (h : (Lit.int .u64 n).wf = true) : U64 n := by
  have := bounds_u64 h
  unfold U64
  omega
theorem db_of_tab {W : World} (h : Lib.TabIs Tryd.prog W "math/bits.deBruijn64tab" .u8 (Lib.deBruijn64tab.map Int.ofNat)) : Db W := fun j hj => by
  have := h.cell (g := 0) (by kernel_rfl) j (Nat.lt_of_lt_of_eq hj (by decide +kernel))
  rw [this]
  have e : ∀ j : Fin 64, (Lib.deBruijn64tab.map Int.ofNat).getD j.val 0 = ((Lib.deBruijn64tab.getD j.val 0 : Nat) : Int) := by decide +kernel
  rw [e ⟨j, hj⟩]
set_option maxRecDepth 100000 in
theorem open_nums {H : Type} {enc : TypeId × Value → H} {w : World} {base b0 : Nat} {spare : Nat → Bool} {held : Bool} {r : Reach} {v : Value} {d : DataW H} {p : List MemPlace}
    (hv : Value.okWide Tryd.prog w r b0 24 v) (h : DataW.Trod enc Tryd.prog w base spare held 24 v d p) : ∃ (ao : Option Addr) (cap : Nat) (l : List Int), v = .slice ao l.length cap ∧ IntsRd w ao l ∧ l.length ≤ maxLen := by
  obtain ⟨a0, len0, cap0, rfl⟩ := okWide_slice Tryd.underlying24 hv
  obtain ⟨fuel, hf⟩ := h
  rcases DataW.trod_slice Tryd.underlying24 hf with ⟨hcs, _⟩ | ⟨a, len, cap, elems, rest, m, _, hcs, hdx, hb, hl, hm, hlen, hel, _, _⟩
  · exact ⟨none, 0, [], (List.cons.inj (show [Value.slice a0 len0 cap0] = [_] from hcs)).1, fun i h => absurd h (Nat.not_lt_zero _), Nat.zero_le _⟩
  · have hv := (List.cons.inj (show [Value.slice a0 len0 cap0] = [_] from hcs)).1
    have k1 : Tryd.prog.cellsOf 3 = 1 := by kernel_rfl
    have each : ∀ i, i < len → ∃ x : Int, w.cells? base (a.add (i * 1)) 1 = some [.int .i64 x] := by
      intro i hi
      have h1 := hel i hi
      rw [k1, List.getElem?_eq_getElem (by omega)] at h1
      obtain ⟨cs, h2, h3⟩ := Option.bind_eq_some_iff.1 h1
      obtain ⟨x, e, _, _⟩ := DataW.trod_int Tryd.underlying3 h3
      exact ⟨x, by rw [h2, e]⟩
    obtain ⟨l, hls, hall⟩ : ∃ l : List Int, l.length = len ∧ ∀ i (h : i < l.length), w.cells? base (a.add (i * 1)) 1 = some [.int .i64 l[i]] := by
      have : ∀ k, k ≤ len → ∃ l : List Int, l.length = k ∧ ∀ i (h : i < l.length), w.cells? base (a.add (i * 1)) 1 = some [.int .i64 l[i]] := by
        intro k
        induction k with
        | zero => exact fun _ => ⟨[], rfl, fun i h => absurd h (Nat.not_lt_zero _)⟩
        | succ k ih =>
          intro hk
          obtain ⟨l, rfl, h2⟩ := ih (by omega)
          obtain ⟨x, h3⟩ := each l.length (by omega)
          have e : ∀ (hh : l.length < (l ++ [x]).length), (l ++ [x])[l.length] = x := by simp
          refine ⟨l ++ [x], by simp, fun i hi => ?_⟩
          rw [List.length_append, List.length_singleton] at hi
          rcases Nat.lt_or_ge i l.length with hlt | hge
          · rw [List.getElem_append_left hlt]; exact h2 i hlt
          · obtain rfl : i = l.length := by omega
            rw [e]
            exact h3
      exact this len (Nat.le_refl _)
    subst hls
    refine ⟨some a, cap, l, hv, fun i hi => ?_, Nat.le_trans hl hm⟩
    have hc0 := (World.cells?_some (hall i hi)).2.2 0 (by omega)
    rw [add_zero_addr] at hc0
    have he0 := (World.cells?_some (hall 0 (by omega))).2.2 0 (by omega)
    rw [Nat.zero_mul, add_zero_addr, add_zero_addr] at he0
    have he := spot_none (he0.trans (rfl : ([Value.int .i64 l[0]] : List Value)[0]? = some _))
    have hlt := World.block_lt_of_cell? _ _ (he0.trans (rfl : ([Value.int .i64 l[0]] : List Value)[0]? = some _))
    refine ⟨a.block, a.off, by rw [← he], hlt, ?_⟩
    rw [he, add_plain, Nat.mul_one] at hc0
    exact hc0
end Go.Proofs.YtniecghigmgbnaaDoor
