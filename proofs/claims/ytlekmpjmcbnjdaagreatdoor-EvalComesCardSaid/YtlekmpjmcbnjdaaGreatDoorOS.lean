/- A scope (a struct of a slice of structs and a slice of texts) that came in, opened. -/
import Derived.Test.YtlekmpjmcbnjdaaGreatDoorKV
import Derived.Test.YtlekmpjmcbnjdaaGreatDoorOV
import Derived.WalkKit
import Derived.ProofKit
import Derived.OpenShut
import Derived.SliceStrings
import Derived.Lib.SmallJoins
namespace Go.Proofs.YtlekmpjmcbnjdaaGreatDoor
open Go.RowKit Go.ChangeShapes Go.WideShapes Go.Joins
set_option maxRecDepth 100000 in
theorem var_trod {H : Type} {enc : TypeId × Value → H} {w : World} {base fuel : Nat} {spare : Nat → Bool} {held : Bool} {cs : List Value} {x : DataW H × List MemPlace}
    (h : DataW.trod enc Tryz.prog w base spare held fuel 53 cs = some x) : ∃ v : ByteArray × Int, cs = varC v := by
  obtain ⟨xs, m, _, hxx, hl, hlen, hf⟩ := DataW.trod_struct Tryz.underlying53 h
  have hl2 : cs.length = 2 := hl.trans (by kernel_rfl)
  have hx2 : xs.length = 2 := hlen
  match cs, hl2 with
  | [c0, c1], _ =>
    match xs, hx2 with
    | [y0, y1], _ =>
      have k1 : Tryz.prog.cellsOf 3 = 1 := by kernel_rfl
      have k3 : Tryz.prog.cellsOf 9 = 1 := by kernel_rfl
      have h0 : DataW.trod enc Tryz.prog w base spare held m 9 [c0] = some y0 := by simpa [k3] using hf 0 _ rfl
      have h1 : DataW.trod enc Tryz.prog w base spare held m 3 [c1] = some y1 := by simpa [k1] using hf 1 _ rfl
      obtain ⟨s, e0, _, _⟩ := DataW.trod_string Tryz.underlying9 h0
      obtain ⟨k, e1, _, _⟩ := DataW.trod_int Tryz.underlying3 h1
      simp only [List.cons.injEq, and_true] at e0 e1
      subst e0 e1
      exact ⟨(s, k), rfl⟩
/-- What a slice reads as: nothing, or so many elements. -/
def LenD {H : Type} (d : DataW H) (n : Nat) : Prop := (d = .nil ∧ n = 0) ∨ ∃ el sp, d = .slice el sp ∧ el.length = n
set_option maxRecDepth 100000 in
theorem open_varsV {H : Type} {enc : TypeId × Value → H} {w : World} {base fuel : Nat} {spare : Nat → Bool} {held : Bool} {v : Value} {x : DataW H × List MemPlace}
    (h : DataW.trod enc Tryz.prog w base spare held fuel 47 [v] = some x) : ∃ (ao : Option Addr) (vs : List (ByteArray × Int)) (cap : Nat), v = .slice ao vs.length cap ∧ vs.length ≤ maxLen ∧ VarsAt w ao vs ∧ LenD x.1 vs.length ∧ (ao = none → cap = 0) := by
  rcases DataW.trod_slice Tryz.underlying47 h with ⟨hcs, hx⟩ | ⟨a, len, cap, elems, rest, m, _, hcs, hdx, hb, hl, hm, hlen, hel, _, _⟩
  · exact ⟨none, [], 0, (List.cons.inj hcs).1, Nat.zero_le _, fun h => absurd h (Nat.not_lt_zero _), .inl ⟨by rw [hx], rfl⟩, fun _ => rfl⟩
  · have hv := (List.cons.inj hcs).1
    have k2 : Tryz.prog.cellsOf 53 = 2 := by kernel_rfl
    have each : ∀ i, i < len → ∃ n : ByteArray × Int, w.cells? base (a.add (i * 2)) 2 = some (varC n) := by
      intro i hi
      have h1 := hel i hi
      rw [k2, List.getElem?_eq_getElem (by omega)] at h1
      obtain ⟨cs, h2, h3⟩ := Option.bind_eq_some_iff.1 h1
      obtain ⟨n, rfl⟩ := var_trod h3
      exact ⟨n, h2⟩
    obtain ⟨vs, hns, hall⟩ : ∃ vs : List (ByteArray × Int), vs.length = len ∧ ∀ i (h : i < vs.length), w.cells? base (a.add (i * 2)) 2 = some (varC vs[i]) := by
      have : ∀ k, k ≤ len → ∃ vs : List (ByteArray × Int), vs.length = k ∧ ∀ i (h : i < vs.length), w.cells? base (a.add (i * 2)) 2 = some (varC vs[i]) := by
        intro k
        induction k with
        | zero => exact fun _ => ⟨[], rfl, fun i h => absurd h (Nat.not_lt_zero _)⟩
        | succ k ih =>
          intro hk
          obtain ⟨vs, rfl, h2⟩ := ih (by omega)
          obtain ⟨n, h3⟩ := each vs.length (by omega)
          have e : ∀ (hh : vs.length < (vs ++ [n]).length), (vs ++ [n])[vs.length] = n := by simp
          refine ⟨vs ++ [n], by simp, fun i hi => ?_⟩
          rw [List.length_append, List.length_singleton] at hi
          rcases Nat.lt_or_ge i vs.length with hlt | hge
          · rw [List.getElem_append_left hlt]; exact h2 i hlt
          · obtain rfl : i = vs.length := by omega
            rw [e]
            exact h3
      exact this len (Nat.le_refl _)
    subst hns
    refine ⟨some a, vs, cap, hv, Nat.le_trans hl hm, fun h0 => ?_, .inr ⟨_, _, by rw [hdx], by rw [List.length_map]; exact hlen⟩, fun h => by cases h⟩
    have hc0 := (World.cells?_some (hall 0 h0)).2.2 0 (by omega)
    rw [Nat.zero_mul, add_zero_addr, add_zero_addr] at hc0
    have he := spot_none (hc0.trans (rfl : (varC vs[0])[0]? = some (.string vs[0].1)))
    have hlt := World.block_lt_of_cell? _ _ (hc0.trans (rfl : (varC vs[0])[0]? = some (.string vs[0].1)))
    have hcell : ∀ i (hi : i < vs.length) j, j < 2 → w.cell? ⟨a.block, a.off + i * 2 + j, none⟩ = (varC vs[i])[j]? := fun i hi j hj => by
      have := (World.cells?_some (hall i hi)).2.2 j hj
      rw [he, add_plain, add_plain] at this
      exact this
    exact ⟨a.block, a.off, by rw [← he], hlt, fun i hi => ⟨hcell i hi 0 (by omega), hcell i hi 1 (by omega)⟩⟩
set_option maxRecDepth 100000 in
theorem open_strsL {H : Type} {enc : TypeId × Value → H} {w : World} {base fuel : Nat} {spare : Nat → Bool} {held : Bool} {v : Value} {x : DataW H × List MemPlace}
    (h : DataW.trod enc Tryz.prog w base spare held fuel 23 [v] = some x) : ∃ (ao : Option Addr) (ss : List ByteArray) (cap : Nat), v = .slice ao ss.length cap ∧ ss.length ≤ maxLen ∧ StrsAt w ao ss ∧ (ao = none → cap = 0) ∧ LenD x.1 ss.length := by
  rcases open_strings Tryz.underlying23 Tryz.underlying9 (by kernel_rfl) h with ⟨hcs, hx⟩ | ⟨a, len', cap', ss, hcs, _, hl, hm, hz, hx, hcell, _⟩
  · exact ⟨none, [], 0, (List.cons.inj hcs).1, Nat.zero_le _, fun h => absurd h (Nat.not_lt_zero _), fun _ => rfl, .inl ⟨by rw [hx], rfl⟩⟩
  · have hle : len' ≤ ss.length := by
      rw [hz]
      split
      · exact hl
      · exact Nat.le_refl _
    have e : (ss.take len').length = len' := by rw [List.length_take]; omega
    refine ⟨some a, ss.take len', cap', by rw [e]; exact (List.cons.inj hcs).1, by rw [e]; exact Nat.le_trans hl hm, strs_arg fun i hi => ?_, fun h => (by cases h), .inr ⟨_, _, by rw [hx], by simp [strs]⟩⟩
    have hi' : i < ss.length := by omega
    rw [hcell i hi', List.getElem_take, List.getD_eq_getElem?_getD, List.getElem?_eq_getElem hi']
    rfl
/-- A scope that came in. -/
def ScopeV {H : Type} (w : World) (v : Value) (d : DataW H) (vs : List (ByteArray × Int)) (ss : List ByteArray) : Prop :=
  ∃ (va : Option Addr) (vc : Nat) (sa : Option Addr) (sc : Nat), v = .agg #[.slice va vs.length vc, .slice sa ss.length sc] ∧ VarsAt w va vs ∧ StrsAt w sa ss ∧ vs.length ≤ maxLen ∧ ss.length ≤ maxLen ∧ (∃ dv ds, d = .agg [dv, ds] ∧ LenD dv vs.length ∧ LenD ds ss.length) ∧ (va = none → vc = 0) ∧ (sa = none → sc = 0)
set_option maxRecDepth 100000 in
theorem open_scope {H : Type} {enc : TypeId × Value → H} {w : World} {base b0 : Nat} {spare : Nat → Bool} {held : Bool} {r : Reach} {v : Value} {d : DataW H} {p : List MemPlace}
    (hv : Value.okWide Tryz.prog w r b0 49 v) (h : DataW.Trod enc Tryz.prog w base spare held 49 v d p) : ∃ vs ss, ScopeV w v d vs ss := by
  obtain ⟨v0, v1, y0, y1, m, rfl, hd, -, h0, h1⟩ := open_agg2 Tryz.underlying49 (by kernel_rfl) (by kernel_rfl) hv h
  obtain ⟨va, vs, vc, rfl, hvm, hva, hld, hv0⟩ := open_varsV h0
  obtain ⟨sa, ss, sc, rfl, hsm, hsa, hs0, hlds⟩ := open_strsL h1
  exact ⟨vs, ss, va, vc, sa, sc, rfl, hva, hsa, hvm, hsm, ⟨_, _, hd, hld, hlds⟩, hv0, hs0⟩
set_option maxRecDepth 100000 in
/-- The form's reach holds a scope's variables, and its states. -/
theorem scope_reach {H : Type} {w : World} {v : Value} {d : DataW H} {vs : List (ByteArray × Int)} {ss : List ByteArray} (h : ScopeV w v d vs ss) (hz : (d.weights Tryz.prog 49).all (· ≤ reachBytes) = true) : vs.length * 24 ≤ 140737488355328 ∧ ss.length * 16 ≤ 140737488355328 := by
  obtain ⟨_, _, _, _, _, _, _, _, _, ⟨dv, ds, rfl, hl, hs⟩, _⟩ := h
  have hu := Tryz.underlying49
  have hv := Tryz.underlying47
  have ht := Tryz.underlying23
  have hb : Tryz.prog.bytesOf 53 = 24 := by kernel_rfl
  have hc : Tryz.prog.bytesOf 9 = 16 := by kernel_rfl
  rw [DataW.weights, hu] at hz
  simp only [List.map_cons, DataW.weightsEach, List.all_append, Bool.and_eq_true] at hz
  obtain ⟨z1, z2, _⟩ := hz
  constructor
  · rcases hl with ⟨_, h0⟩ | ⟨el, sp, rfl, he⟩
    · rw [h0]; decide
    · rw [DataW.weights, hv] at z1
      simp only [hb, List.all_cons, Bool.and_eq_true] at z1
      have h1 : (el.length + sp.length) * 24 ≤ reachBytes := of_decide_eq_true z1.1
      unfold reachBytes at h1
      omega
  · rcases hs with ⟨_, h0⟩ | ⟨el, sp, rfl, he⟩
    · rw [h0]; decide
    · rw [DataW.weights, ht] at z2
      simp only [hc, List.all_cons, Bool.and_eq_true] at z2
      have h1 : (el.length + sp.length) * 16 ≤ reachBytes := of_decide_eq_true z2.1
      unfold reachBytes at h1
      omega
end Go.Proofs.YtlekmpjmcbnjdaaGreatDoor

