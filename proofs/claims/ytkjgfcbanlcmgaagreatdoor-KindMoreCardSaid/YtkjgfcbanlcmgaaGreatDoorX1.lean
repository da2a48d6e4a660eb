/- The reader's block and its three rows, and how they stand behind what is written. -/
import Derived.Test.YtkjgfcbanlcmgaaGreatDoorX0
import Derived.Test.YtkjgfcbanlcmgaaGreatDoorTN
import Derived.Test.YtkjgfcbanlcmgaaGreatDoorZ7
import Derived.WalkKit
import Derived.ProofKit
import Derived.OpenShut
import Derived.Handy
import Derived.BigQuiet
import Derived.OwnWalk
import Derived.OneCell
import Derived.Deep.AppendLies
import Derived.Lib.Hide
import Derived.WalkSmall
import Derived.WalkLawsBesides
namespace Go.Proofs.YtkjgfcbanlcmgaaGreatDoor
open Go.RowKit
/-- A node as a value, and its cells. -/
def ndV (n : Nd) : Value := .agg #[.int .i64 n.op, .int .i64 n.k, .int .i64 n.n, .string ⟨n.s.toArray⟩, .string ⟨n.name.toArray⟩, .int .i64 n.l, .int .i64 n.r]
def ndC (n : Nd) : List Value := [.int .i64 n.op, .int .i64 n.k, .int .i64 n.n, .string ⟨n.s.toArray⟩, .string ⟨n.name.toArray⟩, .int .i64 n.l, .int .i64 n.r]
def ndsC (ns : List Nd) : List Value := ns.flatMap ndC
def natsC (l : List Nat) : List Value := l.map fun (p : Nat) => .int .i64 (p : Int)
def intsC (l : List Int) : List Value := l.map fun p => .int .i64 p
theorem ndsC_snoc (ts : List Nd) (t : Nd) : ndsC (ts ++ [t]) = ndsC ts ++ ndC t := by simp [ndsC]
theorem ndsC_length : ∀ ts : List Nd, (ndsC ts).length = ts.length * 7
  | [] => rfl
  | t :: r => by
    have := ndsC_length r
    unfold ndsC at *
    rw [List.flatMap_cons, List.length_append, this]
    simp [ndC]; omega
structure RdIs (B rb : Nat) (lv : Value) (r : Rd) (nv pv wv : Value) (w : World) : Prop where
  blk : w.heap[rb]? = some (.cells #[lv, .int .i64 (r.at_ : Int), nv, pv, wv, .int .i64 (r.within : Int)] 73 (0, 0))
  nodes : w.ownsRow B 57 7 nv r.nodes.length (ndsC r.nodes)
  parts : w.ownsRow B 3 1 pv r.parts.length (natsC r.parts.reverse)
  wait : w.ownsRow B 3 1 wv r.wait.length (intsC r.wait.reverse)
  apart : pv.ownBlock = none ∨ pv.ownBlock ≠ wv.ownBlock
  base : B ≤ rb
def RdAt (B rb : Nat) (lv : Value) (r : Rd) (w : World) : Prop := ∃ nv pv wv, RdIs B rb lv r nv pv wv w
/-- What a part's row lies in is another block than the reader's. -/
theorem own_ne {w : World} {B rb s n : Nat} {e t : TypeId} {v : Value} {xs : List Value} {cs : Array Value} {fr : Nat × Nat} (h : w.ownsRow B e s v n xs) (hb : w.heap[rb]? = some (.cells cs t fr)) (ht : t ≠ e) : v.ownBlock ≠ some rb := by
  rcases h.2 with ⟨rfl, _⟩ | ⟨g, cap, cur, rfl, _, hg, _⟩
  · intro h; cases h
  · intro h
    simp only [Value.ownBlock, Option.some.injEq] at h
    subst h
    rw [hb] at hg
    cases hg
    exact ht rfl
theorem own_apart {w : World} {B B' s s' n n' : Nat} {e t : TypeId} {v u : Value} {xs ys : List Value} (h : w.ownsRow B e s v n xs) (k : w.ownsRow B' t s' u n' ys) (ht : e ≠ t) : v.ownBlock = none ∨ v.ownBlock ≠ u.ownBlock := by
  rcases k.2 with ⟨rfl, _⟩ | ⟨g, cap, cur, rfl, _, hg, _⟩
  · cases hv : v.ownBlock with
    | none => exact .inl rfl
    | some k => exact .inr fun h => by cases h
  · exact .inr (own_ne h hg (Ne.symm ht))
theorem rd_keep {B rb : Nat} {lv nv pv wv : Value} {r : Rd} {w w' : World} (h : RdIs B rb lv r nv pv wv w) (hb : Below w.heap.size w w') : RdIs B rb lv r nv pv wv w' :=
  ⟨(hb.block rb (lt_of_block h.blk)).trans h.blk, owns_below h.nodes hb, owns_below h.parts hb, owns_below h.wait hb, h.apart, h.base⟩
theorem rdat_keep {B rb : Nat} {lv : Value} {r : Rd} {w w' : World} (h : RdAt B rb lv r w) (hb : Below w.heap.size w w') : RdAt B rb lv r w' := by
  obtain ⟨nv, pv, wv, h⟩ := h
  exact ⟨nv, pv, wv, rd_keep h hb⟩
theorem blk_set {w : World} {b i : Nat} {cs : Array Value} {u : Value} {t : TypeId} (h : w.heap[b]? = some (.cells cs t (0, 0))) : (w.setCell ⟨b, i, none⟩ u).heap[b]? = some (.cells (cs.setIfInBounds i u) t (0, 0)) := by
  have hlt := lt_of_block h
  have h' : w.heap[b] = .cells cs t (0, 0) := by simpa [Array.getElem?_eq_getElem hlt] using h
  show (w.heap.modify b _)[b]? = _
  rw [Array.getElem?_eq_getElem (by simpa using hlt), Array.getElem_modify_self, h']
  rfl
/-- A cell of the reader's own block is written. -/
theorem rd_set {B rb : Nat} {lv nv pv wv : Value} {r : Rd} {w : World} (h : RdIs B rb lv r nv pv wv w) (i : Nat) (u : Value) :
    (w.setCell ⟨rb, i, none⟩ u).heap[rb]? = some (.cells ((#[lv, .int .i64 (r.at_ : Int), nv, pv, wv, .int .i64 (r.within : Int)] : Array Value).setIfInBounds i u) 73 (0, 0)) ∧
    (w.setCell ⟨rb, i, none⟩ u).ownsRow B 57 7 nv r.nodes.length (ndsC r.nodes) ∧ (w.setCell ⟨rb, i, none⟩ u).ownsRow B 3 1 pv r.parts.length (natsC r.parts.reverse) ∧ (w.setCell ⟨rb, i, none⟩ u).ownsRow B 3 1 wv r.wait.length (intsC r.wait.reverse) :=
  ⟨blk_set h.blk, ownsRow_setCell_other h.nodes (own_ne h.nodes h.blk (by decide)) u, ownsRow_setCell_other h.parts (own_ne h.parts h.blk (by decide)) u, ownsRow_setCell_other h.wait (own_ne h.wait h.blk (by decide)) u⟩
theorem rd_at {B rb : Nat} {lv nv pv wv : Value} {r : Rd} {w : World} (h : RdIs B rb lv r nv pv wv w) (a : Nat) {x : Int} (hx : x = (a : Int)) : RdIs B rb lv { r with at_ := a } nv pv wv (w.setCell ⟨rb, 1, none⟩ (.int .i64 x)) := by
  subst hx
  obtain ⟨h1, h2, h3, h4⟩ := rd_set h 1 (.int .i64 (a : Int))
  exact ⟨h1, h2, h3, h4, h.apart, h.base⟩
theorem rd_within {B rb : Nat} {lv nv pv wv : Value} {r : Rd} {w : World} (h : RdIs B rb lv r nv pv wv w) (a : Nat) {x : Int} (hx : x = (a : Int)) : RdIs B rb lv { r with within := a } nv pv wv (w.setCell ⟨rb, 5, none⟩ (.int .i64 x)) := by
  subst hx
  obtain ⟨h1, h2, h3, h4⟩ := rd_set h 5 (.int .i64 (a : Int))
  exact ⟨h1, h2, h3, h4, h.apart, h.base⟩
/-- Other rows are as they were, where one has grown. -/
theorem grown_other {w w' : World} {B B' e e' s s' n n' : Nat} {v u : Value} {xs ys : List Value} (h : w.ownsRow B e s v n xs) (_k : w.ownsRow B' e' s' u n' ys) (ha : v.ownBlock = none ∨ v.ownBlock ≠ u.ownBlock) (hg : w.grownBy w' u.ownBlock) : w'.ownsRow B e s v n xs :=
  h.kept hg ha
theorem grown_blk {w w' : World} {B e s n rb : Nat} {u : Value} {ys : List Value} {cs : Array Value} {t : TypeId} {fr : Nat × Nat} (k : w.ownsRow B e s u n ys) (hb : w.heap[rb]? = some (.cells cs t fr)) (ht : t ≠ e) (hg : w.grownBy w' u.ownBlock) : w'.heap[rb]? = some (.cells cs t fr) := by
  rw [hg.block rb (lt_of_block hb) (fun e => own_ne k hb ht e.symm)]
  exact hb
/-- What has grown lies apart from what lay apart from it. -/
theorem grown_apart {w : World} {B e s n g H : Nat} {v u : Value} {xs : List Value} (h : w.ownsRow B e s v n xs) (ha : v.ownBlock = none ∨ v.ownBlock ≠ u.ownBlock) (hat : u.ownBlock = some g ∨ g = H) (hH : w.heap.size ≤ H) : v.ownBlock = none ∨ v.ownBlock ≠ some g := by
  rcases ha with ha | ha
  · exact .inl ha
  · right
    rcases hat with hat | rfl
    · rw [← hat]; exact ha
    · intro hv
      have := (h.lt _ hv).2
      omega
theorem rd_wait {B rb g H cap n : Nat} {lv nv pv wv : Value} {r : Rd} {w w' : World} {x : Int} (h : RdIs B rb lv r nv pv wv w) (hg : w.grownBy w' wv.ownBlock) (ho : w'.ownsRow B 3 1 (.slice (some ⟨g, 0, none⟩) n cap) n (intsC r.wait.reverse ++ [.int .i64 x])) (hn : n = r.wait.length + 1) (hat : wv.ownBlock = some g ∨ g = H) (hH : w.heap.size ≤ H) :
    RdIs B rb lv { r with wait := x :: r.wait } nv pv (.slice (some ⟨g, 0, none⟩) n cap) (w'.setCell ⟨rb, 4, none⟩ (.slice (some ⟨g, 0, none⟩) n cap)) := by
  subst hn
  have ho' : w'.ownsRow B 3 1 (.slice (some ⟨g, 0, none⟩) (r.wait.length + 1) cap) (x :: r.wait).length (intsC (x :: r.wait).reverse) := by simpa [intsC] using ho
  have hb := grown_blk h.wait h.blk (by decide) hg
  have h2 := grown_other h.nodes h.wait (own_apart h.nodes h.wait (by decide)) hg
  have h3 := grown_other h.parts h.wait h.apart hg
  exact ⟨blk_set hb, ownsRow_setCell_other h2 (own_ne h2 hb (by decide)) _, ownsRow_setCell_other h3 (own_ne h3 hb (by decide)) _, ownsRow_setCell_other ho' (own_ne ho' hb (by decide)) _, grown_apart h.parts h.apart hat hH, h.base⟩
theorem rd_parts {B rb g H cap n : Nat} {lv nv pv wv : Value} {r : Rd} {w w' : World} {x : Nat} (h : RdIs B rb lv r nv pv wv w) (hg : w.grownBy w' pv.ownBlock) (ho : w'.ownsRow B 3 1 (.slice (some ⟨g, 0, none⟩) n cap) n (natsC r.parts.reverse ++ [.int .i64 (x : Int)])) (hn : n = r.parts.length + 1) (hat : pv.ownBlock = some g ∨ g = H) (hH : w.heap.size ≤ H) :
    RdIs B rb lv { r with parts := x :: r.parts } nv (.slice (some ⟨g, 0, none⟩) n cap) wv (w'.setCell ⟨rb, 3, none⟩ (.slice (some ⟨g, 0, none⟩) n cap)) := by
  subst hn
  have ho' : w'.ownsRow B 3 1 (.slice (some ⟨g, 0, none⟩) (r.parts.length + 1) cap) (x :: r.parts).length (natsC (x :: r.parts).reverse) := by simpa [natsC] using ho
  have hb := grown_blk h.parts h.blk (by decide) hg
  have h2 := grown_other h.nodes h.parts (own_apart h.nodes h.parts (by decide)) hg
  have hwa : wv.ownBlock = none ∨ wv.ownBlock ≠ pv.ownBlock := by
    rcases h.apart with ha | ha
    · cases hw : wv.ownBlock with
      | none => exact .inl rfl
      | some k => right; rw [ha]; intro h; cases h
    · exact .inr (Ne.symm ha)
  have h3 := grown_other h.wait h.parts hwa hg
  refine ⟨blk_set hb, ownsRow_setCell_other h2 (own_ne h2 hb (by decide)) _, ownsRow_setCell_other ho' (own_ne ho' hb (by decide)) _, ownsRow_setCell_other h3 (own_ne h3 hb (by decide)) _, ?_, h.base⟩
  right
  intro he
  rcases grown_apart h.wait hwa hat hH with k | k
  · rw [k] at he; cases he
  · exact k he.symm
theorem rd_nodes {B rb g cap n : Nat} {lv nv pv wv : Value} {r : Rd} {w w' : World} {x : Nd} (h : RdIs B rb lv r nv pv wv w) (hg : w.grownBy w' nv.ownBlock) (ho : w'.ownsRow B 57 7 (.slice (some ⟨g, 0, none⟩) n cap) n (ndsC r.nodes ++ ndC x)) (hn : n = r.nodes.length + 1) :
    RdIs B rb lv { r with nodes := r.nodes ++ [x] } (.slice (some ⟨g, 0, none⟩) n cap) pv wv (w'.setCell ⟨rb, 2, none⟩ (.slice (some ⟨g, 0, none⟩) n cap)) := by
  subst hn
  have ho' : w'.ownsRow B 57 7 (.slice (some ⟨g, 0, none⟩) (r.nodes.length + 1) cap) (r.nodes ++ [x]).length (ndsC (r.nodes ++ [x])) := by rw [ndsC_snoc]; simpa using ho
  have hb := grown_blk h.nodes h.blk (by decide) hg
  have h2 := grown_other h.parts h.nodes (own_apart h.parts h.nodes (by decide)) hg
  have h3 := grown_other h.wait h.nodes (own_apart h.wait h.nodes (by decide)) hg
  exact ⟨blk_set hb, ownsRow_setCell_other ho' (own_ne ho' hb (by decide)) _, ownsRow_setCell_other h2 (own_ne h2 hb (by decide)) _, ownsRow_setCell_other h3 (own_ne h3 hb (by decide)) _, h.apart, h.base⟩
/-- A row's beginning. -/
theorem owns_take {w : World} {B e s g cap n k : Nat} {xs : List Value} (h : w.ownsRow B e s (.slice (some ⟨g, 0, none⟩) n cap) n xs) (hk : k ≤ n) : w.ownsRow B e s (.slice (some ⟨g, 0, none⟩) k cap) k (xs.take (k * s)) := by
  obtain ⟨h1, h2⟩ := h
  have hks : k * s ≤ n * s := Nat.mul_le_mul_right _ hk
  rcases h2 with ⟨h0, _⟩ | ⟨g', cap', cur, hv, hg, hh, hn, hcap, hsz, htake⟩
  · cases h0
  · cases hv
    refine ⟨by rw [List.length_take, h1]; omega, .inr ⟨g, cap, cur, rfl, hg, hh, by omega, hcap, hsz, ?_⟩⟩
    rw [← htake, List.take_take, Nat.min_eq_left hks]
theorem own_form {w : World} {B e s n : Nat} {v : Value} {xs : List Value} (h : w.ownsRow B e s v n xs) : ∃ ao cap, v = .slice ao n cap := by
  rcases h.2 with ⟨rfl, rfl⟩ | ⟨g, cap, cur, rfl, _⟩
  · exact ⟨none, 0, rfl⟩
  · exact ⟨_, cap, rfl⟩
/-- The cells, as a walk reads them. -/
theorem rd_cells {B rb : Nat} {lv nv pv wv : Value} {r : Rd} {w : World} (h : RdIs B rb lv r nv pv wv w) :
    w.cell? ⟨rb, 0, none⟩ = some lv ∧ w.cell? ⟨rb, 1, none⟩ = some (.int .i64 (r.at_ : Int)) ∧ w.cell? ⟨rb, 2, none⟩ = some nv ∧ w.cell? ⟨rb, 3, none⟩ = some pv ∧ w.cell? ⟨rb, 4, none⟩ = some wv ∧ w.cell? ⟨rb, 5, none⟩ = some (.int .i64 (r.within : Int)) ∧ rb < w.heap.size ∧ ∀ i, w.frozen? ⟨rb, i, none⟩ = false := by
  refine ⟨?_, ?_, ?_, ?_, ?_, ?_, lt_of_block h.blk, fun i => frozen_of_row w rb i _ _ h.blk⟩
  all_goals
    rw [cell_of_row w rb _ _ _ _ h.blk]
    rfl
/-- Behind an append, ahead of the store: the reader's cells. -/
theorem grown_cells {B rb : Nat} {lv nv pv wv u : Value} {r : Rd} {W W2 w1 : World} {e s n : Nat} {ys : List Value} (hgrow : W2.grownBy w1 u.ownBlock) (h : RdIs B rb lv r nv pv wv W) (k : W.ownsRow B e s u n ys) (ht : 73 ≠ e) (hb : Below W.heap.size W W2) :
    w1.cell? ⟨rb, 2, none⟩ = some nv ∧ w1.cell? ⟨rb, 3, none⟩ = some pv ∧ w1.cell? ⟨rb, 4, none⟩ = some wv ∧ (∀ i, w1.frozen? ⟨rb, i, none⟩ = false) ∧ rb < w1.heap.size := by
  have h2 := rd_keep h hb
  have hk := grown_blk (owns_below k hb) h2.blk ht hgrow
  refine ⟨?_, ?_, ?_, fun i => frozen_of_row w1 rb i _ _ hk, lt_of_block hk⟩
  all_goals
    rw [cell_of_row w1 rb _ _ _ _ hk]
    rfl
theorem grown_below {B e s n : Nat} {u : Value} {ys : List Value} {w W W2 w1 : World} (hgrow : W2.grownBy w1 u.ownBlock) (k : W.ownsRow B e s u n ys) (hbel : Below B w W) (hb : Below W.heap.size W W2) (hB : B ≤ W.heap.size) : Below B w w1 :=
  Below.grown (hbel.trans (hb.mono hB)) hgrow (Nat.le_trans hB hb.size) fun j hj => (k.lt j hj).1
end Go.Proofs.YtkjgfcbanlcmgaaGreatDoor

