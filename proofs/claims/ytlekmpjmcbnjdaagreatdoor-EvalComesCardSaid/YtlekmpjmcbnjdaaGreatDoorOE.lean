/- An environment (a struct of a slice of names with values and a slice of texts) that came in, opened. -/
import Derived.Test.YtlekmpjmcbnjdaaGreatDoorEA
import Derived.Test.YtlekmpjmcbnjdaaGreatDoorOS
import Derived.WalkKit
import Derived.ProofKit
import Derived.OpenShut
import Derived.SliceStrings
import Derived.Lib.SmallJoins
namespace Go.Proofs.YtlekmpjmcbnjdaaGreatDoor
open Go.RowKit Go.ChangeShapes Go.WideShapes Go.Joins
def clC (c : Cl) : List Value := [.string c.name, .int .i64 c.k, .int .i64 c.n, .string c.s]
/-- What is known of a name with a value that came in. -/
structure ClIn (c : Cl) : Prop where
  n64 : I64 c.n
  s : c.s.size ≤ maxLen
set_option maxRecDepth 100000 in
theorem cell_trod {H : Type} {enc : TypeId × Value → H} {w : World} {base fuel : Nat} {spare : Nat → Bool} {held : Bool} {cs : List Value} {x : DataW H × List MemPlace}
    (h : DataW.trod enc Tryz.prog w base spare held fuel 51 cs = some x) : ∃ c : Cl, cs = clC c ∧ ClIn c := by
  obtain ⟨xs, m, _, hxx, hl, hlen, hf⟩ := DataW.trod_struct Tryz.underlying51 h
  have hl4 : cs.length = 4 := hl.trans (by kernel_rfl)
  have hx2 : xs.length = 2 := hlen
  match cs, hl4 with
  | [c0, c1, c2, c3], _ =>
    match xs, hx2 with
    | [y0, y1], _ =>
      have k1 : Tryz.prog.cellsOf 3 = 1 := by kernel_rfl
      have k2 : Tryz.prog.cellsOf 2 = 1 := by kernel_rfl
      have k3 : Tryz.prog.cellsOf 9 = 1 := by kernel_rfl
      have k4 : Tryz.prog.cellsOf 36 = 3 := by kernel_rfl
      have h0 : DataW.trod enc Tryz.prog w base spare held m 9 [c0] = some y0 := by simpa [k3] using hf 0 _ rfl
      have h1 : DataW.trod enc Tryz.prog w base spare held m 36 [c1, c2, c3] = some y1 := by simpa [k4] using hf 1 _ rfl
      obtain ⟨nm, e0, a0, w0⟩ := DataW.trod_string Tryz.underlying9 h0
      obtain ⟨zs, m', _, hzx, _, hzl, hz⟩ := DataW.trod_struct Tryz.underlying36 h1
      have hz3 : zs.length = 3 := hzl
      match zs, hz3 with
      | [z0, z1, z2], _ =>
        have g0 : DataW.trod enc Tryz.prog w base spare held m' 3 [c1] = some z0 := by simpa [k1] using hz 0 _ rfl
        have g1 : DataW.trod enc Tryz.prog w base spare held m' 2 [c2] = some z1 := by simpa [k2] using hz 1 _ rfl
        have g2 : DataW.trod enc Tryz.prog w base spare held m' 9 [c3] = some z2 := by simpa [k3] using hz 2 _ rfl
        obtain ⟨k, d0, b0, v0⟩ := DataW.trod_int Tryz.underlying3 g0
        obtain ⟨n, d1, b1, v1⟩ := DataW.trod_int Tryz.underlying2 g1
        obtain ⟨s, d2, b2, v2⟩ := DataW.trod_string Tryz.underlying9 g2
        simp only [List.cons.injEq, and_true] at e0 d0 d1 d2
        subst e0 d0 d1 d2
        exact ⟨⟨nm, k, n, s⟩, rfl, i64_of_wf v1, v2⟩
set_option maxRecDepth 100000 in
theorem open_cellsV {H : Type} {enc : TypeId × Value → H} {w : World} {base fuel : Nat} {spare : Nat → Bool} {held : Bool} {v : Value} {x : DataW H × List MemPlace}
    (h : DataW.trod enc Tryz.prog w base spare held fuel 22 [v] = some x) : ∃ (ao : Option Addr) (cs : List Cl) (cap : Nat), v = .slice ao cs.length cap ∧ cs.length ≤ maxLen ∧ CellsAt w ao cs ∧ LenD x.1 cs.length ∧ ∀ c ∈ cs, ClIn c := by
  rcases DataW.trod_slice Tryz.underlying22 h with ⟨hcs, hx⟩ | ⟨a, len, cap, elems, rest, m, _, hcs, hdx, hb, hl, hm, hlen, hel, _, _⟩
  · exact ⟨none, [], 0, (List.cons.inj hcs).1, Nat.zero_le _, fun h => absurd h (Nat.not_lt_zero _), .inl ⟨by rw [hx], rfl⟩, fun c h => (by cases h)⟩
  · have hv := (List.cons.inj hcs).1
    have k4 : Tryz.prog.cellsOf 51 = 4 := by kernel_rfl
    have each : ∀ i, i < len → ∃ n : Cl, w.cells? base (a.add (i * 4)) 4 = some (clC n) ∧ ClIn n := by
      intro i hi
      have h1 := hel i hi
      rw [k4, List.getElem?_eq_getElem (by omega)] at h1
      obtain ⟨cs, h2, h3⟩ := Option.bind_eq_some_iff.1 h1
      obtain ⟨n, rfl, hn⟩ := cell_trod h3
      exact ⟨n, h2, hn⟩
    obtain ⟨cs, hns, hall⟩ : ∃ cs : List Cl, cs.length = len ∧ ∀ i (h : i < cs.length), w.cells? base (a.add (i * 4)) 4 = some (clC cs[i]) ∧ ClIn cs[i] := by
      have : ∀ k, k ≤ len → ∃ cs : List Cl, cs.length = k ∧ ∀ i (h : i < cs.length), w.cells? base (a.add (i * 4)) 4 = some (clC cs[i]) ∧ ClIn cs[i] := by
        intro k
        induction k with
        | zero => exact fun _ => ⟨[], rfl, fun i h => absurd h (Nat.not_lt_zero _)⟩
        | succ k ih =>
          intro hk
          obtain ⟨cs, rfl, h2⟩ := ih (by omega)
          obtain ⟨n, h3⟩ := each cs.length (by omega)
          have e : ∀ (hh : cs.length < (cs ++ [n]).length), (cs ++ [n])[cs.length] = n := by simp
          refine ⟨cs ++ [n], by simp, fun i hi => ?_⟩
          rw [List.length_append, List.length_singleton] at hi
          rcases Nat.lt_or_ge i cs.length with hlt | hge
          · rw [List.getElem_append_left hlt]; exact h2 i hlt
          · obtain rfl : i = cs.length := by omega
            rw [e]
            exact h3
      exact this len (Nat.le_refl _)
    subst hns
    refine ⟨some a, cs, cap, hv, Nat.le_trans hl hm, fun h0 => ?_, .inr ⟨_, _, by rw [hdx], by rw [List.length_map]; exact hlen⟩, fun c hc => ?_⟩
    · have hc0 := (World.cells?_some (hall 0 h0).1).2.2 0 (by omega)
      rw [Nat.zero_mul, add_zero_addr, add_zero_addr] at hc0
      have he := spot_none (hc0.trans (rfl : (clC cs[0])[0]? = some (.string cs[0].name)))
      have hlt := World.block_lt_of_cell? _ _ (hc0.trans (rfl : (clC cs[0])[0]? = some (.string cs[0].name)))
      have hcell : ∀ i (hi : i < cs.length) j, j < 4 → w.cell? ⟨a.block, a.off + i * 4 + j, none⟩ = (clC cs[i])[j]? := fun i hi j hj => by
        have := (World.cells?_some (hall i hi).1).2.2 j hj
        rw [he, add_plain, add_plain] at this
        exact this
      exact ⟨a.block, a.off, by rw [← he], hlt, fun i hi => ⟨hcell i hi 0 (by omega), hcell i hi 1 (by omega), hcell i hi 2 (by omega), hcell i hi 3 (by omega)⟩⟩
    · obtain ⟨i, hi, rfl⟩ := List.getElem_of_mem hc
      exact (hall i hi).2
/-- An environment that came in. -/
def EnvV {H : Type} (w : World) (v : Value) (d : DataW H) (cs : List Cl) (ins : List ByteArray) : Prop :=
  ∃ (va : Option Addr) (vc : Nat) (ia : Option Addr) (ic : Nat), v = envV va cs.length vc ia ins.length ic ∧ CellsAt w va cs ∧ StrsAt w ia ins ∧ cs.length ≤ maxLen ∧ ins.length ≤ maxLen ∧ (∃ dv ds, d = .agg [dv, ds] ∧ LenD dv cs.length) ∧ ∀ c ∈ cs, ClIn c
set_option maxRecDepth 100000 in
theorem open_env {H : Type} {enc : TypeId × Value → H} {w : World} {base b0 : Nat} {spare : Nat → Bool} {held : Bool} {r : Reach} {v : Value} {d : DataW H} {p : List MemPlace}
    (hv : Value.okWide Tryz.prog w r b0 25 v) (h : DataW.Trod enc Tryz.prog w base spare held 25 v d p) : ∃ cs ins, EnvV w v d cs ins := by
  obtain ⟨v0, v1, y0, y1, m, rfl, hd, -, h0, h1⟩ := open_agg2 Tryz.underlying25 (by kernel_rfl) (by kernel_rfl) hv h
  obtain ⟨va, cs, vc, rfl, hvm, hva, hld, hin⟩ := open_cellsV h0
  obtain ⟨ia, ins, ic, rfl, hsm, hsa, _, _⟩ := open_strsL h1
  exact ⟨cs, ins, va, vc, ia, ic, rfl, hva, hsa, hvm, hsm, ⟨_, _, hd, hld⟩, hin⟩
set_option maxRecDepth 100000 in
/-- The form's reach holds an environment's names. -/
theorem env_reach {H : Type} {w : World} {v : Value} {d : DataW H} {cs : List Cl} {ins : List ByteArray} (h : EnvV w v d cs ins) (hz : (d.weights Tryz.prog 25).all (· ≤ reachBytes) = true) : cs.length * 48 ≤ 140737488355328 := by
  obtain ⟨_, _, _, _, _, _, _, _, _, ⟨dv, ds, rfl, hl⟩, _⟩ := h
  have hu := Tryz.underlying25
  have hv := Tryz.underlying22
  have hb : Tryz.prog.bytesOf 51 = 48 := by kernel_rfl
  rw [DataW.weights, hu] at hz
  simp only [List.map_cons, DataW.weightsEach, List.all_append, Bool.and_eq_true] at hz
  obtain ⟨z1, _⟩ := hz
  rcases hl with ⟨_, h0⟩ | ⟨el, sp, rfl, he⟩
  · rw [h0]; decide
  · rw [DataW.weights, hv] at z1
    simp only [hb, List.all_cons, Bool.and_eq_true] at z1
    have h1 : (el.length + sp.length) * 48 ≤ reachBytes := of_decide_eq_true z1.1
    unfold reachBytes at h1
    omega
set_option maxRecDepth 100000 in
/-- Texts that came in. -/
theorem open_txts {H : Type} {enc : TypeId × Value → H} {w : World} {base b0 : Nat} {spare : Nat → Bool} {held : Bool} {r : Reach} {v : Value} {d : DataW H} {p : List MemPlace}
    (hv : Value.okWide Tryz.prog w r b0 23 v) (h : DataW.Trod enc Tryz.prog w base spare held 23 v d p) : ∃ (ao : Option Addr) (ss : List ByteArray) (cap : Nat), v = .slice ao ss.length cap ∧ ss.length ≤ maxLen ∧ StrsAt w ao ss := by
  obtain ⟨a0, len0, cap0, rfl⟩ := okWide_slice Tryz.underlying23 hv
  obtain ⟨fuel, hf⟩ := h
  obtain ⟨ao, ss, cap, e, hm, hs, _⟩ := open_strsL (v := .slice a0 len0 cap0) hf
  exact ⟨ao, ss, cap, e, hm, hs⟩
end Go.Proofs.YtlekmpjmcbnjdaaGreatDoor

