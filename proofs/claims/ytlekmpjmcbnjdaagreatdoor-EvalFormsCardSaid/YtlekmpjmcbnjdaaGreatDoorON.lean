/- Nodes that came in: a slice of them, opened. -/
import Derived.Test.YtlekmpjmcbnjdaaGreatDoorY7
import Derived.Test.YtlekmpjmcbnjdaaGreatDoorOV
import Derived.WalkKit
import Derived.ProofKit
import Derived.OpenShut
import Derived.SliceStrings
import Derived.Lib.SmallJoins
namespace Go.Proofs.YtlekmpjmcbnjdaaGreatDoor
open Go.RowKit Go.ChangeShapes Go.WideShapes Go.Joins
/-- What is known of a node that came in. -/
structure NdIn (n : Nd) : Prop where
  iop : I64 n.op
  ik : I64 n.k
  i_n : I64 n.n
  il : I64 n.l
  ir : I64 n.r
  s : n.s.length ≤ maxLen
  name : n.name.length ≤ maxLen
/-- A node as data. -/
def ndD {H : Type} (n : Nd) : DataW H := .agg [.lit (.int .i64 n.op), .agg [.lit (.int .i64 n.k), .lit (.int .i64 n.n), .lit (.string n.s)], .lit (.string n.name), .lit (.int .i64 n.l), .lit (.int .i64 n.r)]
set_option maxRecDepth 100000 in
theorem node_trod {H : Type} {enc : TypeId × Value → H} {w : World} {base fuel : Nat} {spare : Nat → Bool} {held : Bool} {cs : List Value} {x : DataW H × List MemPlace}
    (h : DataW.trod enc Tryz.prog w base spare held fuel 77 cs = some x) : ∃ n : Nd, cs = ndC n ∧ NdIn n ∧ x.1 = ndD n := by
  obtain ⟨xs, m, _, hxx, hl, hlen, hf⟩ := DataW.trod_struct Tryz.underlying77 h
  have hl7 : cs.length = 7 := hl.trans (by kernel_rfl)
  have hx5 : xs.length = 5 := hlen
  match cs, hl7 with
  | [c0, c1, c2, c3, c4, c5, c6], _ =>
    match xs, hx5 with
    | [y0, y1, y2, y3, y4], _ =>
      have k1 : Tryz.prog.cellsOf 3 = 1 := by kernel_rfl
      have k2 : Tryz.prog.cellsOf 2 = 1 := by kernel_rfl
      have k3 : Tryz.prog.cellsOf 9 = 1 := by kernel_rfl
      have k4 : Tryz.prog.cellsOf 36 = 3 := by kernel_rfl
      have h0 : DataW.trod enc Tryz.prog w base spare held m 3 [c0] = some y0 := by simpa [k1] using hf 0 _ rfl
      have h1 : DataW.trod enc Tryz.prog w base spare held m 36 [c1, c2, c3] = some y1 := by simpa [k4] using hf 1 _ rfl
      have h2 : DataW.trod enc Tryz.prog w base spare held m 9 [c4] = some y2 := by simpa [k3] using hf 2 _ rfl
      have h3 : DataW.trod enc Tryz.prog w base spare held m 3 [c5] = some y3 := by simpa [k1] using hf 3 _ rfl
      have h4 : DataW.trod enc Tryz.prog w base spare held m 3 [c6] = some y4 := by simpa [k1] using hf 4 _ rfl
      obtain ⟨op, e0, a0, w0⟩ := DataW.trod_int Tryz.underlying3 h0
      obtain ⟨nm, e2, a2, w2⟩ := DataW.trod_string Tryz.underlying9 h2
      obtain ⟨l, e3, a3, w3⟩ := DataW.trod_int Tryz.underlying3 h3
      obtain ⟨r, e4, a4, w4⟩ := DataW.trod_int Tryz.underlying3 h4
      obtain ⟨zs, m', _, hzx, _, hzl, hz⟩ := DataW.trod_struct Tryz.underlying36 h1
      have hz3 : zs.length = 3 := hzl
      match zs, hz3 with
      | [z0, z1, z2], _ =>
        have g0 : DataW.trod enc Tryz.prog w base spare held m' 3 [c1] = some z0 := by simpa [k1] using hz 0 _ rfl
        have g1 : DataW.trod enc Tryz.prog w base spare held m' 2 [c2] = some z1 := by simpa [k2] using hz 1 _ rfl
        have g2 : DataW.trod enc Tryz.prog w base spare held m' 9 [c3] = some z2 := by simpa [k3] using hz 2 _ rfl
        obtain ⟨k, d0, b0, v0⟩ := DataW.trod_int Tryz.underlying3 g0
        obtain ⟨n, d1, b1, v1⟩ := DataW.trod_int Tryz.underlying2 g1
        obtain ⟨s, d2, b2, v2⟩ := DataW.trod_string Tryz.underlying9 g2
        simp only [List.cons.injEq, and_true] at e0 e2 e3 e4 d0 d1 d2
        subst e0 e2 e3 e4 d0 d1 d2
        refine ⟨⟨op, k, n, s.data.toList, nm.data.toList, l, r⟩, rfl, ⟨i64_of_wf w0, i64_of_wf v0, i64_of_wf v1, i64_of_wf w3, i64_of_wf w4, ?_, ?_⟩, ?_⟩
        · rw [← Lib.size_eq]; exact v2
        · rw [← Lib.size_eq]; exact w2
        · rw [hxx]
          subst hzx a0 a2 a3 a4 b0 b1 b2
          rfl
/-- Nodes that came in: none, or they lie where the slice says. -/
def NodesV (w : World) (v : Value) (ns : List Nd) : Prop := ∃ ao cap, v = .slice ao ns.length cap ∧ ns.length ≤ maxLen ∧ NdsAt w ao ns ∧ ∀ n ∈ ns, NdIn n
theorem ndC_inj_len (n : Nd) : (ndC n).length = 7 := rfl
set_option maxRecDepth 100000 in
theorem open_nodes {H : Type} {enc : TypeId × Value → H} {w : World} {base b0 : Nat} {spare : Nat → Bool} {held : Bool} {r : Reach} {v : Value} {d : DataW H} {p : List MemPlace}
    (hv : Value.okWide Tryz.prog w r b0 31 v) (h : DataW.Trod enc Tryz.prog w base spare held 31 v d p) : ∃ ns, NodesV w v ns ∧ (ns = [] ∨ ∃ sp, d = .slice (ns.map ndD) sp) := by
  obtain ⟨a0, len0, cap0, rfl⟩ := okWide_slice Tryz.underlying31 hv
  obtain ⟨fuel, hf⟩ := h
  rcases DataW.trod_slice Tryz.underlying31 hf with ⟨hcs, _⟩ | ⟨a, len, cap, elems, rest, m, _, hcs, hdx, hb, hl, hm, hlen, hel, _, _⟩
  · refine ⟨[], ⟨none, 0, (List.cons.inj (show [Value.slice a0 len0 cap0] = [_] from hcs)).1, Nat.zero_le _, fun h => absurd h (Nat.not_lt_zero _), fun n h => (by cases h)⟩, .inl rfl⟩
  · have hv := (List.cons.inj (show [Value.slice a0 len0 cap0] = [_] from hcs)).1
    have k7 : Tryz.prog.cellsOf 77 = 7 := by kernel_rfl
    have each : ∀ i, i < len → ∃ n : Nd, w.cells? base (a.add (i * 7)) 7 = some (ndC n) ∧ NdIn n ∧ (elems[i]?).map (·.1) = some (ndD n) := by
      intro i hi
      have h1 := hel i hi
      rw [k7, List.getElem?_eq_getElem (by omega)] at h1
      rw [List.getElem?_eq_getElem (by omega)]
      obtain ⟨cs, h2, h3⟩ := Option.bind_eq_some_iff.1 h1
      obtain ⟨n, rfl, hn, hd⟩ := node_trod h3
      exact ⟨n, h2, hn, by simp [hd]⟩
    obtain ⟨ns, hns, hall⟩ : ∃ ns : List Nd, ns.length = len ∧ ∀ i (h : i < ns.length), w.cells? base (a.add (i * 7)) 7 = some (ndC ns[i]) ∧ NdIn ns[i] ∧ (elems[i]?).map (·.1) = some (ndD ns[i]) := by
      have : ∀ k, k ≤ len → ∃ ns : List Nd, ns.length = k ∧ ∀ i (h : i < ns.length), w.cells? base (a.add (i * 7)) 7 = some (ndC ns[i]) ∧ NdIn ns[i] ∧ (elems[i]?).map (·.1) = some (ndD ns[i]) := by
        intro k
        induction k with
        | zero => exact fun _ => ⟨[], rfl, fun i h => absurd h (Nat.not_lt_zero _)⟩
        | succ k ih =>
          intro hk
          obtain ⟨ns, rfl, h2⟩ := ih (by omega)
          obtain ⟨n, h3, h4⟩ := each ns.length (by omega)
          have e : ∀ (hh : ns.length < (ns ++ [n]).length), (ns ++ [n])[ns.length] = n := by simp
          refine ⟨ns ++ [n], by simp, fun i hi => ?_⟩
          rw [List.length_append, List.length_singleton] at hi
          rcases Nat.lt_or_ge i ns.length with hlt | hge
          · rw [List.getElem_append_left hlt]; exact h2 i hlt
          · obtain rfl : i = ns.length := by omega
            rw [e]
            exact ⟨h3, h4⟩
      exact this len (Nat.le_refl _)
    subst hns
    refine ⟨ns, ⟨some a, cap, hv, Nat.le_trans hl hm, fun h0 => ?_, fun n hn => ?_⟩, .inr ⟨rest.map (·.1), ?_⟩⟩
    · have hc0 := (World.cells?_some (hall 0 h0).1).2.2 0 (by omega)
      rw [Nat.zero_mul, add_zero_addr, add_zero_addr] at hc0
      have he := spot_none (hc0.trans (rfl : (ndC ns[0])[0]? = some (.int .i64 ns[0].op)))
      have hlt := World.block_lt_of_cell? _ _ (hc0.trans (rfl : (ndC ns[0])[0]? = some (.int .i64 ns[0].op)))
      have hcell : ∀ i (hi : i < ns.length) j, j < 7 → w.cell? ⟨a.block, a.off + i * 7 + j, none⟩ = (ndC ns[i])[j]? := fun i hi j hj => by
        have := (World.cells?_some (hall i hi).1).2.2 j hj
        rw [he, add_plain, add_plain] at this
        exact this
      refine ⟨a.block, a.off, by rw [← he], hlt, fun i hi => ⟨hcell i hi 0 (by omega), hcell i hi 1 (by omega), hcell i hi 2 (by omega), hcell i hi 3 (by omega), hcell i hi 4 (by omega), hcell i hi 5 (by omega), hcell i hi 6 (by omega)⟩⟩
    · obtain ⟨i, hi, rfl⟩ := List.getElem_of_mem hn
      exact (hall i hi).2.1
    · have hd := congrArg Prod.fst hdx
      simp only at hd
      rw [hd]
      congr 1
      refine List.ext_getElem? fun i => ?_
      rw [List.getElem?_map, List.getElem?_map]
      rcases Nat.lt_or_ge i ns.length with hi | hi
      · rw [(hall i hi).2.2, List.getElem?_eq_getElem hi]
        rfl
      · rw [List.getElem?_eq_none (by omega), List.getElem?_eq_none (by omega)]
        rfl
end Go.Proofs.YtlekmpjmcbnjdaaGreatDoor

