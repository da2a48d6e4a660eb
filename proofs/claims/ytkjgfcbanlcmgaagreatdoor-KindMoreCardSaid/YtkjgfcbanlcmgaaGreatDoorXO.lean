/- The document's kinds: whirligigref04.Of, from a node down. -/
import Derived.Test.YtkjgfcbanlcmgaaGreatDoorXK
import Derived.Test.YtkjgfcbanlcmgaaGreatDoorK
import Derived.WalkKit
import Derived.ProofKit
import Derived.OpenShut
import Derived.Handy
import Derived.BigQuiet
import Derived.Lib.Hide
import Derived.WalkSmall
import Derived.WalkLawsBesides
namespace Go.Proofs.YtkjgfcbanlcmgaaGreatDoor
open Go.RowKit
/-- The first variable of a name. -/
def findV : List (ByteArray × Int) → ByteArray → Option Int
  | [], _ => none
  | (s, k) :: r, x => if s.toList == x.toList then some k else findV r x
/-- A node's own kind, by those of its parts. -/
def ownR (vs : List (ByteArray × Int)) (ss : List ByteArray) (n : Nd) (a b : Int) : Except Int Int :=
  if n.op = 0 then .ok n.k
  else if n.op = 16 then (match findV vs ⟨n.name.toArray⟩ with | some k => .ok k | none => .error 24)
  else if n.op = 17 then (if hasB ss ⟨n.name.toArray⟩ then .ok 2 else .error 24)
  else if resK n.op a (if n.op ≤ 2 then 0 else b) = 0 then .error 20 else .ok (resK n.op a (if n.op ≤ 2 then 0 else b))
theorem ownR_leaf (vs : List (ByteArray × Int)) (ss : List ByteArray) : ∀ n a b, (n.op = 0 ∨ n.op = 16 ∨ n.op = 17) → ownR vs ss n a b = ownR vs ss n 0 0 := by
  intro n a b h
  unfold ownR
  rcases h with h | h | h <;> rw [h] <;> rfl
theorem ownR_one (vs : List (ByteArray × Int)) (ss : List ByteArray) : ∀ n a b, (n.op = 1 ∨ n.op = 2) → ownR vs ss n a b = ownR vs ss n a 0 := by
  intro n a b h
  unfold ownR
  rcases h with h | h <;> rw [h] <;> rfl
/-- Variables, and names of states, lie where slices say. -/
def VarsAt (w : World) (ao : Option Addr) (vs : List (ByteArray × Int)) : Prop := 0 < vs.length → ∃ g o, ao = some ⟨g, o, none⟩ ∧ g < w.heap.size ∧ ∀ i (h : i < vs.length), w.cell? ⟨g, o + i * 2, none⟩ = some (.string vs[i].1) ∧ w.cell? ⟨g, o + i * 2 + 1, none⟩ = some (.int .i64 vs[i].2)
def StrsAt (w : World) (ao : Option Addr) (ss : List ByteArray) : Prop := 0 < ss.length → ∃ g o, ao = some ⟨g, o, none⟩ ∧ g < w.heap.size ∧ ∀ i (h : i < ss.length), w.cell? ⟨g, o + i, none⟩ = some (.string ss[i])
theorem vars_below {w w' : World} {ao : Option Addr} {vs : List (ByteArray × Int)} (h : VarsAt w ao vs) (hb : Below w.heap.size w w') : VarsAt w' ao vs := by
  intro h0
  obtain ⟨g, o, e, hg, hc⟩ := h h0
  refine ⟨g, o, e, Nat.lt_of_lt_of_le hg hb.size, fun i hi => ?_⟩
  obtain ⟨h1, h2⟩ := hc i hi
  exact ⟨(hb.cell (p := ⟨g, _, none⟩) hg).trans h1, (hb.cell (p := ⟨g, _, none⟩) hg).trans h2⟩
theorem strs_below {w w' : World} {ao : Option Addr} {ss : List ByteArray} (h : StrsAt w ao ss) (hb : Below w.heap.size w w') : StrsAt w' ao ss := by
  intro h0
  obtain ⟨g, o, e, hg, hc⟩ := h h0
  exact ⟨g, o, e, Nat.lt_of_lt_of_le hg hb.size, fun i hi => (hb.cell (p := ⟨g, _, none⟩) hg).trans (hc i hi)⟩
def ofV : Except (Int × Nat) Int → Value
  | .ok k => .tuple #[.int .i64 k, .int .i64 0, .int .i64 0]
  | .error (x, j) => .tuple #[.int .i64 0, .int .i64 x, .int .i64 (j : Int)]
theorem findV_skip {vs : List (ByteArray × Int)} {x : ByteArray} {i : Nat} (h : i < vs.length) (hne : (vs[i].1.toList == x.toList) = false) (hp : findV vs x = findV (vs.drop i) x) : findV vs x = findV (vs.drop (i + 1)) x := by
  rw [hp, List.drop_eq_getElem_cons h]
  generalize vs[i] = v at *
  obtain ⟨s, k⟩ := v
  simp only at hne
  rw [findV, hne]
  rfl
theorem findV_hit {vs : List (ByteArray × Int)} {x : ByteArray} {i : Nat} (h : i < vs.length) (he : (vs[i].1.toList == x.toList) = true) (hp : findV vs x = findV (vs.drop i) x) : findV vs x = some vs[i].2 := by
  rw [hp, List.drop_eq_getElem_cons h]
  generalize vs[i] = v at *
  obtain ⟨s, k⟩ := v
  simp only at he
  rw [findV, he]
  rfl
theorem ownR_err {vs : List (ByteArray × Int)} {ss : List ByteArray} {n : Nd} {a b x : Int} (h : ownR vs ss n a b = .error x) : x = 24 ∨ x = 20 := by
  unfold ownR at h
  repeat' split at h
  all_goals first | cases h
  all_goals first | exact .inl rfl | exact .inr rfl
theorem downK_err {vs : List (ByteArray × Int)} {ss : List ByteArray} {ns : List Nd} (hah : ∀ j (h : j < ns.length), Ahead j ns[j]) : ∀ (f i : Nat), i < f → i < ns.length → ∀ x j, downK (ownR vs ss) ns f i = .error (x, j) → x = 24 ∨ x = 20
  | 0, i, hf, _, _, _, _ => absurd hf (Nat.not_lt_zero _)
  | f + 1, i, hf, hi, x, j, h => by
    have ha := hah i hi
    rw [downK, List.getElem?_eq_getElem hi] at h
    simp only at h
    generalize ns[i] = n at *
    split at h
    · split at h
      · cases h; exact ownR_err ‹_›
      · cases h
    · rename_i hop
      have hr : 1 ≤ n.op ∧ n.op ≤ 15 := by
        rcases ha.range with h | h | h
        · exact absurd (.inl h) hop
        · exact h
        · exact absurd (.inr h) hop
      obtain ⟨a, hl, hlt⟩ := ha.l hr.1 hr.2
      rw [hl, show ((a : Int)).toNat = a from rfl] at h
      split at h
      · rename_i e he
        cases h
        exact downK_err hah f a (by omega) (by omega) _ _ he
      · split at h
        · split at h
          · cases h; exact ownR_err ‹_›
          · cases h
        · obtain ⟨b, hrr, hrt⟩ := ha.r (by omega) hr.2
          rw [hrr, show ((b : Int)).toNat = b from rfl] at h
          split at h
          · rename_i e he
            cases h
            exact downK_err hah f b (by omega) (by omega) _ _ he
          · split at h
            · cases h; exact ownR_err ‹_›
            · cases h
end Go.Proofs.YtkjgfcbanlcmgaaGreatDoor

