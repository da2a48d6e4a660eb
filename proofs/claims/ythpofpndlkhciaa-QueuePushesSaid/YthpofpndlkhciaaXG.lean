/- Plain: nodes that may be an expression are a tree, each node behind those of its parts, one part's nodes ahead of the next one's. No program. -/
import Derived.Test.YthpofpndlkhciaaXF
namespace Go.Proofs.Ythpofpndlkhciaa
/-- The nodes from lo to i are those of the tree whose whole is node i. -/
inductive Tree (ns : List Nd) : Nat → Nat → Prop
  | leaf {i : Nat} {n : Nd} (hn : ns[i]? = some n) (hc : n.op = 0 ∨ n.op = 16 ∨ n.op = 17) : Tree ns i i
  | one {lo a : Nat} {n : Nd} (hn : ns[a + 1]? = some n) (hc : n.op = 1 ∨ n.op = 2) (hl : n.l = (a : Int)) (ha : Tree ns lo a) : Tree ns lo (a + 1)
  | two {lo a b : Nat} {n : Nd} (hn : ns[b + 1]? = some n) (hc : 3 ≤ n.op ∧ n.op ≤ 15) (hl : n.l = (a : Int)) (hr : n.r = (b : Int)) (ha : Tree ns lo a) (hb : Tree ns (a + 1) b) : Tree ns lo (b + 1)
theorem Tree.le {ns : List Nd} {lo i : Nat} (h : Tree ns lo i) : lo ≤ i := by
  induction h with
  | leaf => exact Nat.le_refl _
  | one _ _ _ _ ih => omega
  | two _ _ _ _ _ _ ih1 ih2 => omega
theorem Tree.lt {ns : List Nd} {lo i : Nat} (h : Tree ns lo i) : i < ns.length := by
  cases h with
  | leaf hn => exact (List.getElem?_eq_some_iff.1 hn).1
  | one hn => exact (List.getElem?_eq_some_iff.1 hn).1
  | two hn => exact (List.getElem?_eq_some_iff.1 hn).1
theorem Tree.grow {ns : List Nd} {lo i : Nat} (h : Tree ns lo i) (ms : List Nd) : Tree (ns ++ ms) lo i := by
  have e : ∀ {k : Nat} {n : Nd}, ns[k]? = some n → (ns ++ ms)[k]? = some n := fun {k n} hk => by
    rw [List.getElem?_append_left (List.getElem?_eq_some_iff.1 hk).1]; exact hk
  induction h with
  | leaf hn hc => exact .leaf (e hn) hc
  | one hn hc hl _ ih => exact .one (e hn) hc hl ih
  | two hn hc hl hr _ _ ih1 ih2 => exact .two (e hn) hc hl hr ih1 ih2
/-- The parts that wait (the last one first) are trees, one behind the other, of all of the first k nodes. -/
inductive Cover (ns : List Nd) : List Nat → Nat → Prop
  | nil : Cover ns [] 0
  | cons {p lo : Nat} {st : List Nat} (ht : Tree ns lo p) (hs : Cover ns st lo) : Cover ns (p :: st) (p + 1)
theorem Cover.grow {ns : List Nd} {st : List Nat} {k : Nat} (h : Cover ns st k) (ms : List Nd) : Cover (ns ++ ms) st k := by
  induction h with
  | nil => exact .nil
  | cons ht _ ih => exact .cons (ht.grow ms) ih
end Go.Proofs.Ythpofpndlkhciaa

