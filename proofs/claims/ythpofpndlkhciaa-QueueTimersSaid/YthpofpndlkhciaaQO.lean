/- Timers, and texts, that came in, opened. -/
import Derived.Test.YthpofpndlkhciaaQH
import Derived.Test.YthpofpndlkhciaaChecked
import Derived.WalkKit
import Derived.ProofKit
import Derived.OpenShut
import Derived.Lib.SmallJoins
import Derived.Test.YthpofpndlkhciaaNM
import Derived.Handy
import Derived.BigQuiet
import Derived.OwnWalk
import Derived.Lib.Hide
import Derived.WalkSmall
import Derived.WalkLawsBesides
import Derived.Test.YthpofpndlkhciaaOB
import Derived.Test.YthpofpndlkhciaaT2
import Derived.Deep.MidRow
import Derived.Deep.AppendLies
import Derived.SliceStrings
import Derived.Test.YthpofpndlkhciaaXG
import Derived.Test.YthpofpndlkhciaaG0
namespace Go.Proofs.Ythpofpndlkhciaa
open Go.RowKit Go.ChangeShapes Go.WideShapes Go.Joins
set_option maxRecDepth 100000 in
theorem tm_trod {H : Type} {enc : TypeId × Value → H} {w : World} {base fuel : Nat} {spare : Nat → Bool} {held : Bool} {cs : List Value} {x : DataW H × List MemPlace}
    (h : DataW.trod enc Try.prog w base spare held fuel 33 cs = some x) : ∃ t : Tm, cs = tmC t := by
  obtain ⟨xs, m, _, hxx, hl, hlen, hf⟩ := DataW.trod_struct Try.underlying33 h
  have hl3 : cs.length = 3 := hl.trans (by kernel_rfl)
  have hx3 : xs.length = 3 := hlen
  match cs, hl3 with
  | [c0, c1, c2], _ =>
    match xs, hx3 with
    | [y0, y1, y2], _ =>
      have k1 : Try.prog.cellsOf 2 = 1 := by kernel_rfl
      have k2 : Try.prog.cellsOf 3 = 1 := by kernel_rfl
      have k3 : Try.prog.cellsOf 9 = 1 := by kernel_rfl
      have h0 : DataW.trod enc Try.prog w base spare held m 2 [c0] = some y0 := by simpa [k1] using hf 0 _ rfl
      have h1 : DataW.trod enc Try.prog w base spare held m 3 [c1] = some y1 := by simpa [k2] using hf 1 _ rfl
      have h2 : DataW.trod enc Try.prog w base spare held m 9 [c2] = some y2 := by simpa [k3] using hf 2 _ rfl
      obtain ⟨k, d0, _, _⟩ := DataW.trod_int Try.underlying2 h0
      obtain ⟨n, d1, _, _⟩ := DataW.trod_int Try.underlying3 h1
      obtain ⟨s, d2, _, _⟩ := DataW.trod_string Try.underlying9 h2
      simp only [List.cons.injEq, and_true] at d0 d1 d2
      subst d0 d1 d2
      exact ⟨⟨k, n, s⟩, rfl⟩
set_option maxRecDepth 100000 in
theorem open_tms {H : Type} {enc : TypeId × Value → H} {w : World} {base b0 : Nat} {spare : Nat → Bool} {held : Bool} {r : Reach} {v : Value} {d : DataW H} {p : List MemPlace}
    (hv : Value.okWide Try.prog w r b0 30 v) (h : DataW.Trod enc Try.prog w base spare held 30 v d p) : ∃ (ao : Option Addr) (l : List Tm) (cap : Nat), v = .slice ao l.length cap ∧ l.length ≤ maxLen ∧ SrcAt w ao cap (tmsC l) := by
  obtain ⟨a0, len0, cap0, rfl⟩ := okWide_slice Try.underlying30 hv
  obtain ⟨fuel, hf⟩ := h
  rcases DataW.trod_slice Try.underlying30 hf with ⟨hcs, hx⟩ | ⟨a, len, cap, elems, rest, m, _, hcs, hdx, hb, hl, hm, hlen, hel, _, _⟩
  · exact ⟨none, [], 0, (List.cons.inj (show [Value.slice a0 len0 cap0] = [_] from hcs)).1, Nat.zero_le _, fun _ => ⟨rfl, rfl⟩, fun h => absurd rfl h⟩
  · have hv := (List.cons.inj (show [Value.slice a0 len0 cap0] = [_] from hcs)).1
    have k3 : Try.prog.cellsOf 33 = 3 := by kernel_rfl
    have each : ∀ i, i < len → ∃ n : Tm, w.cells? base (a.add (i * 3)) 3 = some (tmC n) := by
      intro i hi
      have h1 := hel i hi
      rw [k3, List.getElem?_eq_getElem (by omega)] at h1
      obtain ⟨cs, h2, h3⟩ := Option.bind_eq_some_iff.1 h1
      obtain ⟨n, rfl⟩ := tm_trod h3
      exact ⟨n, h2⟩
    obtain ⟨l, hns, hall⟩ : ∃ l : List Tm, l.length = len ∧ ∀ i (h : i < l.length), w.cells? base (a.add (i * 3)) 3 = some (tmC l[i]) := by
      have : ∀ k, k ≤ len → ∃ cs : List Tm, cs.length = k ∧ ∀ i (h : i < cs.length), w.cells? base (a.add (i * 3)) 3 = some (tmC cs[i]) := by
        intro k
        induction k with
        | zero => exact fun _ => ⟨[], rfl, fun i h => absurd h (Nat.not_lt_zero _)⟩
        | succ k ih =>
          intro hk
          obtain ⟨cs, rfl, h2⟩ := ih (by omega)
          obtain ⟨n, h3⟩ := each cs.length (by omega)
          have e : ∀ (hh : cs.length < (cs ++ [n]).length), (cs ++ [n])[cs.length] = n := by simp
          refine ⟨cs ++ [n], by simp, fun i hi => ?_⟩
          rw [List.length_append, List.length_singleton] at hi
          rcases Nat.lt_or_ge i cs.length with hlt | hge
          · rw [List.getElem_append_left hlt]; exact h2 i hlt
          · obtain rfl : i = cs.length := by omega
            rw [e]
            exact h3
      exact this len (Nat.le_refl _)
    subst hns
    refine ⟨some a, l, cap, hv, Nat.le_trans hl hm, fun e => (by cases e), fun hn => ?_⟩
    have h0 : 0 < l.length := by
      rcases Nat.eq_zero_or_pos l.length with h0 | h0
      · have : l = [] := List.eq_nil_of_length_eq_zero h0
        subst this
        exact absurd rfl hn
      · exact h0
    have hc0 := (World.cells?_some (hall 0 h0)).2.2 0 (by omega)
    rw [Nat.zero_mul, add_zero_addr, add_zero_addr] at hc0
    have he := spot_none (hc0.trans (rfl : (tmC l[0])[0]? = some (.int .i64 l[0].due)))
    have hlt := World.block_lt_of_cell? _ _ (hc0.trans (rfl : (tmC l[0])[0]? = some (.int .i64 l[0].due)))
    have hcell : ∀ i (hi : i < l.length) j, j < 3 → w.cell? ⟨a.block, a.off + i * 3 + j, none⟩ = (tmC l[i])[j]? := fun i hi j hj => by
      have := (World.cells?_some (hall i hi)).2.2 j hj
      rw [he, add_plain, add_plain] at this
      exact this
    refine ⟨a.block, a.off, by rw [← he], hlt, fun k u hu => ?_⟩
    have hk : k < l.length * 3 := by
      have := (List.getElem?_eq_some_iff.1 hu).1
      rwa [tms_len] at this
    have h1 : k / 3 < l.length := by omega
    have h2 : k % 3 < 3 := Nat.mod_lt _ (by decide)
    have hdm : k / 3 * 3 + k % 3 = k := by omega
    have := tmsC_at l (k / 3) h1 (k % 3) h2
    rw [hdm, hu] at this
    have hc := hcell (k / 3) h1 (k % 3) h2
    rw [← this, Nat.add_assoc, hdm] at hc
    exact hc
set_option maxRecDepth 100000 in
/-- Texts, where they lie. -/
theorem open_tx {H : Type} {enc : TypeId × Value → H} {w : World} {base b0 : Nat} {spare : Nat → Bool} {held : Bool} {r : Reach} {v : Value} {d : DataW H} {p : List MemPlace}
    (hv : Value.okWide Try.prog w r b0 22 v) (h : DataW.Trod enc Try.prog w base spare held 22 v d p) : ∃ (ao : Option Addr) (xs : List ByteArray) (cap : Nat), v = .slice ao xs.length cap ∧ xs.length ≤ maxLen ∧ xs.length ≤ cap ∧ SrcAt w ao cap (txC xs) := by
  obtain ⟨a0, len0, cap0, rfl⟩ := okWide_slice Try.underlying22 hv
  obtain ⟨fuel, hf⟩ := h
  rcases open_strings Try.underlying22 Try.underlying9 (by kernel_rfl) hf with ⟨hcs, _⟩ | ⟨a, len, cap, ss, hcs, _, hl, hm, hz, _, hcell, _⟩
  · exact ⟨none, [], 0, (List.cons.inj (show [Value.slice a0 len0 cap0] = [_] from hcs)).1, Nat.zero_le _, Nat.le_refl _, fun _ => ⟨rfl, rfl⟩, fun h => absurd rfl h⟩
  · have hv := (List.cons.inj (show [Value.slice a0 len0 cap0] = [_] from hcs)).1
    have hle : len ≤ ss.length := by
      rw [hz]
      split
      · exact hl
      · exact Nat.le_refl _
    have e : (ss.take len).length = len := by rw [List.length_take]; omega
    refine ⟨some a, ss.take len, cap, by rw [e]; exact hv, by rw [e]; omega, by rw [e]; exact hl, fun e => (by cases e), fun hn => ?_⟩
    have h0 : 0 < len := by
      rcases Nat.eq_zero_or_pos len with h0 | h0
      · subst h0
        exact absurd rfl hn
      · exact h0
    have hc0 := hcell 0 (by omega)
    rw [add_zero_addr] at hc0
    have he := spot_none hc0
    refine ⟨a.block, a.off, by rw [← he], World.block_lt_of_cell? _ _ hc0, fun j u hu => ?_⟩
    unfold txC at hu
    have hj : j < len := by
      have := (List.getElem?_eq_some_iff.1 hu).1
      rw [List.length_map, e] at this
      exact this
    have hc := hcell j (by omega)
    rw [he, add_plain] at hc
    rw [hc, ← hu, List.getElem?_map, List.getElem?_take, if_pos hj, List.getElem?_eq_getElem (by omega), List.getD_eq_getElem?_getD, List.getElem?_eq_getElem (by omega)]
    rfl
end Go.Proofs.Ythpofpndlkhciaa

