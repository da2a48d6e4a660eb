/- Several texts of this proof, joined: XF, XG. -/
import Derived.Test.YtphdnfijefddlaaDoorX1
import Derived.WalkKit
import Derived.ProofKit
import Derived.OpenShut
import Derived.Handy
import Derived.BigQuiet
import Derived.Deep.RegionHeld3
import Derived.Lib.Hide
import Derived.WalkSmall
import Derived.WalkLawsBesides
import Derived.OwnWalk
import Derived.Deep.AppendLies
import Derived.Deep.RegionLaw
import Derived.StillTailTactics
import Derived.BigRegion
/- Plain: what is read may be: its nodes stand as rightT asks; and where a node's parts stand. No program. -/
namespace Go.Proofs.YtphdnfijefddlaaDoor
/-! ### Tokens -/
/-! ### The machine keeps it -/
section
variable {ts : List Tk}
end
/-! ### Where a node's parts stand -/
/-- A node's operation is one, and its parts stand ahead of it, at place j. -/
structure Ahead (j : Nat) (n : Nd) : Prop where
  range : n.op = 0 ∨ (1 ≤ n.op ∧ n.op ≤ 15) ∨ n.op = 16 ∨ n.op = 17
  l : 1 ≤ n.op → n.op ≤ 15 → ∃ a : Nat, n.l = a ∧ a < j
  r : 3 ≤ n.op → n.op ≤ 15 → ∃ a : Nat, n.r = a ∧ a < j
end Go.Proofs.YtphdnfijefddlaaDoor
/- Plain: nodes that may be an expression are a tree, each node behind those of its parts, one part's nodes ahead of the next one's. No program. -/
namespace Go.Proofs.YtphdnfijefddlaaDoor
/-- The nodes from lo to i are those of the tree whose whole is node i. -/
inductive Tree (ns : List Nd) : Nat → Nat → Prop
  | leaf {i : Nat} {n : Nd} (hn : ns[i]? = some n) (hc : n.op = 0 ∨ n.op = 16 ∨ n.op = 17) : Tree ns i i
  | one {lo a : Nat} {n : Nd} (hn : ns[a + 1]? = some n) (hc : n.op = 1 ∨ n.op = 2) (hl : n.l = (a : Int)) (ha : Tree ns lo a) : Tree ns lo (a + 1)
  | two {lo a b : Nat} {n : Nd} (hn : ns[b + 1]? = some n) (hc : 3 ≤ n.op ∧ n.op ≤ 15) (hl : n.l = (a : Int)) (hr : n.r = (b : Int)) (ha : Tree ns lo a) (hb : Tree ns (a + 1) b) : Tree ns lo (b + 1)
theorem Tree.le {ns : List Nd} {lo i : Nat} (h : Tree ns lo i) : lo ≤ i := by
  induction h with
  | leaf => exact Nat.le_refl _
  | one _ _ _ _ ih => omega
  | two _ _ _ _ _ _ ih1 ih2 => omega
theorem Tree.lt {ns : List Nd} {lo i : Nat} (h : Tree ns lo i) : i < ns.length := by
  cases h with
  | leaf hn => exact (List.getElem?_eq_some_iff.1 hn).1
  | one hn => exact (List.getElem?_eq_some_iff.1 hn).1
  | two hn => exact (List.getElem?_eq_some_iff.1 hn).1
theorem Tree.grow {ns : List Nd} {lo i : Nat} (h : Tree ns lo i) (ms : List Nd) : Tree (ns ++ ms) lo i := by
  have e : ∀ {k : Nat} {n : Nd}, ns[k]? = some n → (ns ++ ms)[k]? = some n := fun {k n} hk => by
    rw [List.getElem?_append_left (List.getElem?_eq_some_iff.1 hk).1]; exact hk
  induction h with
  | leaf hn hc => exact .leaf (e hn) hc
  | one hn hc hl _ ih => exact .one (e hn) hc hl ih
  | two hn hc hl hr _ _ ih1 ih2 => exact .two (e hn) hc hl hr ih1 ih2
/-- The parts that wait (the last one first) are trees, one behind the other, of all of the first k nodes. -/
inductive Cover (ns : List Nd) : List Nat → Nat → Prop
  | nil : Cover ns [] 0
  | cons {p lo : Nat} {st : List Nat} (ht : Tree ns lo p) (hs : Cover ns st lo) : Cover ns (p :: st) (p + 1)
theorem Cover.grow {ns : List Nd} {st : List Nat} {k : Nat} (h : Cover ns st k) (ms : List Nd) : Cover (ns ++ ms) st k := by
  induction h with
  | nil => exact .nil
  | cons ht _ ih => exact .cons (ht.grow ms) ih
end Go.Proofs.YtphdnfijefddlaaDoor
