/- What builds a chart: its block and its rows, and how they stand behind what is written. -/
import Derived.Test.YtekfnnfphhoeoaaGreatDoorMA
import Derived.Test.YtekfnnfphhoeoaaGreatDoorP4
import Derived.WalkKit
import Derived.ProofKit
import Derived.OpenShut
import Derived.Handy
import Derived.BigQuiet
import Derived.OwnWalk
import Derived.OneCell
import Derived.Deep.AppendLies
import Derived.Lib.Hide
import Derived.WalkSmall
import Derived.WalkLawsBesides
namespace Go.Proofs.YtekfnnfphhoeoaaGreatDoor
open Go.RowKit
/-- Below B nothing has turned but one block. -/
structure Fr (B bb : Nat) (w w' : World) : Prop where
  os : w'.os = w.os
  tape : w'.tape = w.tape
  output : w'.output = w.output
  size : w.heap.size ≤ w'.heap.size
  block : ∀ k, k < B → k ≠ bb → w'.heap[k]? = w.heap[k]?
theorem fr_refl (B bb : Nat) (w : World) : Fr B bb w w := ⟨rfl, rfl, rfl, Nat.le_refl _, fun _ _ _ => rfl⟩
theorem fr_trans {B bb : Nat} {w w1 w2 : World} (h : Fr B bb w w1) (k : Fr B bb w1 w2) : Fr B bb w w2 := ⟨k.os.trans h.os, k.tape.trans h.tape, k.output.trans h.output, Nat.le_trans h.size k.size, fun j h1 h2 => (k.block j h1 h2).trans (h.block j h1 h2)⟩
theorem fr_below {B bb : Nat} {w w1 : World} (h : Below w.heap.size w w1) (hB : B ≤ w.heap.size) : Fr B bb w w1 := ⟨h.os, h.tape, h.output, h.size, fun k hk _ => h.block k (Nat.lt_of_lt_of_le hk hB)⟩
theorem fr_set {B bb b i : Nat} {v : Value} {w : World} (hb : b = bb ∨ B ≤ b) : Fr B bb w (w.setCell ⟨b, i, none⟩ v) := ⟨rfl, rfl, rfl, Nat.le_of_eq (size_set _ _ _ _).symm, fun k h1 h2 => by
  have : k ≠ b := by omega
  rw [Below.heap_setCell _ _ _ _ (fun e => this e)]⟩
theorem fr_grown {B bb : Nat} {w w1 : World} {row : Option Nat} (h : w.grownBy w1 row) (hB : B ≤ w.heap.size) (hr : ∀ k, row = some k → B ≤ k) : Fr B bb w w1 := ⟨h.os, h.tape, h.output, h.size, fun k hk _ => h.block k (Nat.lt_of_lt_of_le hk hB) fun e => by have := hr k e.symm; omega⟩
abbrev bdC (c : Ch) (m : Nat) (vv sv ov : Value) : Array Value := #[str c.name, vv, sv, ov, .int .i64 (m : Int)]
structure BdIs (w0 : World) (B bb : Nat) (c : Ch) (op : List Nat) (m : Nat) (rv : Nat → Value) (vv sv ov : Value) (w : World) : Prop where
  blk : w.heap[bb]? = some (.cells (bdC c m vv sv ov) 57 (0, 0))
  vars : w.ownsRow B ct0.vr 4 vv c.vars.length (vrsC c.vars)
  sts : w.ownsRow B ct0.st 7 sv c.states.length (stsC c.states 0 rv)
  rows : RowsAt ct0 B w c.states rv
  opn : w.ownsRow B 3 1 ov op.length (natsC op)
  low : bb < B
  top : B ≤ w.heap.size
  env : Fr B bb w0 w
def BdAt (w0 : World) (B bb : Nat) (c : Ch) (op : List Nat) (m : Nat) (w : World) : Prop := ∃ rv vv sv ov, BdIs w0 B bb c op m rv vv sv ov w
section
variable {w0 : World} {B bb : Nat} {c : Ch} {op : List Nat} {m : Nat} {rv : Nat → Value} {vv sv ov : Value} {w w' : World}
theorem bd_keep (h : BdIs w0 B bb c op m rv vv sv ov w) (hb : Below w.heap.size w w') : BdIs w0 B bb c op m rv vv sv ov w' :=
  ⟨blk_keep h.blk hb, owns_below h.vars hb, owns_below h.sts hb, rows_tp h.rows (fx_below hb) (tp_below hb) (tp_below hb), owns_below h.opn hb, h.low, Nat.le_trans h.top hb.size, fr_trans h.env (fr_below hb h.top)⟩
theorem bdat_keep (h : BdAt w0 B bb c op m w) (hb : Below w.heap.size w w') : BdAt w0 B bb c op m w' := by
  obtain ⟨rv, vv, sv, ov, h⟩ := h
  exact ⟨rv, vv, sv, ov, bd_keep h hb⟩
/-- The rows, where a cell of the builder's block is written. -/
theorem bd_rows (h : BdIs w0 B bb c op m rv vv sv ov w) (i : Nat) (u : Value) : (w.setCell ⟨bb, i, none⟩ u).heap[bb]? = some (.cells ((bdC c m vv sv ov).setIfInBounds i u) 57 (0, 0)) ∧ (w.setCell ⟨bb, i, none⟩ u).ownsRow B ct0.vr 4 vv c.vars.length (vrsC c.vars) ∧
    (w.setCell ⟨bb, i, none⟩ u).ownsRow B ct0.st 7 sv c.states.length (stsC c.states 0 rv) ∧ RowsAt ct0 B (w.setCell ⟨bb, i, none⟩ u) c.states rv ∧ (w.setCell ⟨bb, i, none⟩ u).ownsRow B 3 1 ov op.length (natsC op) :=
  ⟨blk_set h.blk, tp_set h.blk (by decide) _ _ _ _ h.vars, tp_set h.blk (by decide) _ _ _ _ h.sts, rows_tp h.rows (fx_set h.blk (by decide) (by decide) (by decide)) (tp_set h.blk (by decide)) (tp_set h.blk (by decide)), tp_set h.blk (by decide) _ _ _ _ h.opn⟩
theorem bd_name (s : List UInt8) (h : BdIs w0 B bb c op m rv vv sv ov w) : BdIs w0 B bb { c with name := s } op m rv vv sv ov (w.setCell ⟨bb, 0, none⟩ (str s)) := by
  obtain ⟨h1, h2, h3, h4, h5⟩ := bd_rows h 0 (str s)
  exact ⟨h1, h2, h3, h4, h5, h.low, by rw [size_set]; exact h.top, fr_trans h.env (fr_set (.inl rfl))⟩
theorem bd_count (k : Nat) (h : BdIs w0 B bb c op m rv vv sv ov w) : BdIs w0 B bb c op k rv vv sv ov (w.setCell ⟨bb, 4, none⟩ (.int .i64 (k : Int))) := by
  obtain ⟨h1, h2, h3, h4, h5⟩ := bd_rows h 4 (.int .i64 (k : Int))
  exact ⟨h1, h2, h3, h4, h5, h.low, by rw [size_set]; exact h.top, fr_trans h.env (fr_set (.inl rfl))⟩
theorem bd_pop {oa : Option Addr} {oc k : Nat} (h : BdIs w0 B bb c op m rv vv sv (.slice oa op.length oc) w) (hk : k ≤ op.length) : BdIs w0 B bb c (op.take k) m rv vv sv (.slice oa k oc) (w.setCell ⟨bb, 3, none⟩ (.slice oa k oc)) := by
  obtain ⟨h1, h2, h3, h4, h5⟩ := bd_rows h 3 (.slice oa k oc)
  refine ⟨h1, h2, h3, h4, ?_, h.low, by rw [size_set]; exact h.top, fr_trans h.env (fr_set (.inl rfl))⟩
  have := owns_takeV h5 hk
  rw [Nat.mul_one] at this
  rw [show (op.take k).length = k by rw [List.length_take]; omega, show natsC (op.take k) = (natsC op).take k by simp [natsC]]
  exact this
/-- What has grown is no row of the others. -/
theorem bd_vars {g cap n : Nat} {v : Vr} (h : BdIs w0 B bb c op m rv vv sv ov w) (hg : w.grownBy w' vv.ownBlock) (ho : w'.ownsRow B ct0.vr 4 (.slice (some ⟨g, 0, none⟩) n cap) n (vrsC c.vars ++ vrC v)) (hn : n = c.vars.length + 1) :
    BdIs w0 B bb { c with vars := c.vars ++ [v] } op m rv (.slice (some ⟨g, 0, none⟩) n cap) sv ov (w'.setCell ⟨bb, 1, none⟩ (.slice (some ⟨g, 0, none⟩) n cap)) := by
  subst hn
  have hb := grown_blk h.vars h.blk (by decide) hg
  have t2 := tp_grown (B := B) h.vars (show ct0.st ≠ ct0.vr by decide) hg _ _ _ _ h.sts
  have t3 := rows_tp h.rows (fx_grown h.vars (by decide) (by decide) (by decide) hg) (tp_grown h.vars (by decide) hg) (tp_grown h.vars (by decide) hg)
  have t4 := tp_grown (B := B) h.vars (show 3 ≠ ct0.vr by decide) hg _ _ _ _ h.opn
  refine ⟨blk_set hb, ?_, tp_set hb (by decide) _ _ _ _ t2, rows_tp t3 (fx_set hb (by decide) (by decide) (by decide)) (tp_set hb (by decide)) (tp_set hb (by decide)), tp_set hb (by decide) _ _ _ _ t4, h.low, by rw [size_set]; exact Nat.le_trans h.top hg.size, fr_trans (fr_trans h.env (fr_grown hg h.top fun j hj => (h.vars.lt j hj).1)) (fr_set (.inl rfl))⟩
  have := tp_set (i := 1) (u := .slice (some ⟨g, 0, none⟩) (c.vars.length + 1) cap) hb (show 57 ≠ ct0.vr by decide) _ _ _ _ ho
  rw [vrsC_snoc, List.length_append]
  exact this
theorem bd_sts {g cap n : Nat} {s : St} (h : BdIs w0 B bb c op m rv vv sv ov w) (hg : w.grownBy w' sv.ownBlock) (h1 : s.enter = []) (h2 : s.exit = []) (h3 : s.trans = []) (ho : w'.ownsRow B ct0.st 7 (.slice (some ⟨g, 0, none⟩) n cap) n (stsC c.states 0 rv ++ stC s (.slice none 0 0) (.slice none 0 0) (.slice none 0 0))) (hn : n = c.states.length + 1) :
    BdIs w0 B bb { c with states := c.states ++ [s] } op m (newV rv c.states.length) vv (.slice (some ⟨g, 0, none⟩) n cap) ov (w'.setCell ⟨bb, 2, none⟩ (.slice (some ⟨g, 0, none⟩) n cap)) := by
  subst hn
  have hb := grown_blk h.sts h.blk (by decide) hg
  have t2 := tp_grown (B := B) h.sts (show ct0.vr ≠ ct0.st by decide) hg _ _ _ _ h.vars
  have t3 := rows_tp h.rows (fx_grown h.sts (by decide) (by decide) (by decide) hg) (tp_grown h.sts (by decide) hg) (tp_grown h.sts (by decide) hg)
  have t4 := tp_grown (B := B) h.sts (show 3 ≠ ct0.st by decide) hg _ _ _ _ h.opn
  refine ⟨blk_set hb, tp_set hb (by decide) _ _ _ _ t2, ?_, rows_snoc (rows_tp t3 (fx_set hb (by decide) (by decide) (by decide)) (tp_set hb (by decide)) (tp_set hb (by decide))) h1 h2 h3, tp_set hb (by decide) _ _ _ _ t4, h.low, by rw [size_set]; exact Nat.le_trans h.top hg.size, fr_trans (fr_trans h.env (fr_grown hg h.top fun j hj => (h.sts.lt j hj).1)) (fr_set (.inl rfl))⟩
  have := tp_set (i := 2) (u := .slice (some ⟨g, 0, none⟩) (c.states.length + 1) cap) hb (show 57 ≠ ct0.st by decide) _ _ _ _ ho
  rw [stsC_snoc, List.length_append]
  have e : stsC c.states 0 (newV rv c.states.length) = stsC c.states 0 rv := stsC_ext _ _ _ _ fun a ha => if_neg (by omega)
  have k : ∀ r, r < 3 → newV rv c.states.length (3 * (0 + c.states.length) + r) = .slice none 0 0 := fun r hr => if_pos (by omega)
  rw [e, show 3 * (0 + c.states.length) = 3 * (0 + c.states.length) + 0 from rfl, k 0 (by decide), k 1 (by decide), k 2 (by decide)]
  exact this
theorem bd_open {g cap n x : Nat} (h : BdIs w0 B bb c op m rv vv sv ov w) (hg : w.grownBy w' ov.ownBlock) (ho : w'.ownsRow B 3 1 (.slice (some ⟨g, 0, none⟩) n cap) n (natsC op ++ [.int .i64 (x : Int)])) (hn : n = op.length + 1) :
    BdIs w0 B bb c (op ++ [x]) m rv vv sv (.slice (some ⟨g, 0, none⟩) n cap) (w'.setCell ⟨bb, 3, none⟩ (.slice (some ⟨g, 0, none⟩) n cap)) := by
  subst hn
  have hb := grown_blk h.opn h.blk (by decide) hg
  have t1 := tp_grown (B := B) h.opn (show ct0.vr ≠ 3 by decide) hg _ _ _ _ h.vars
  have t2 := tp_grown (B := B) h.opn (show ct0.st ≠ 3 by decide) hg _ _ _ _ h.sts
  have t3 := rows_tp h.rows (fx_grown h.opn (by decide) (by decide) (by decide) hg) (tp_grown h.opn (by decide) hg) (tp_grown h.opn (by decide) hg)
  refine ⟨blk_set hb, tp_set hb (by decide) _ _ _ _ t1, tp_set hb (by decide) _ _ _ _ t2, rows_tp t3 (fx_set hb (by decide) (by decide) (by decide)) (tp_set hb (by decide)) (tp_set hb (by decide)), ?_, h.low, by rw [size_set]; exact Nat.le_trans h.top hg.size, fr_trans (fr_trans h.env (fr_grown hg h.top fun j hj => (h.opn.lt j hj).1)) (fr_set (.inl rfl))⟩
  have := tp_set (i := 3) (u := .slice (some ⟨g, 0, none⟩) (op.length + 1) cap) hb (show 57 ≠ 3 by decide) _ _ _ _ ho
  rw [show natsC (op ++ [x]) = natsC op ++ [.int .i64 (x : Int)] by simp [natsC], List.length_append]
  exact this
/-- Behind an append, ahead of the store: the builder's cells. -/
theorem bd_cells {e s n B' : Nat} {u : Value} {ys : List Value} {W2 w1 : World} (hgrow : W2.grownBy w1 u.ownBlock) (h : BdIs w0 B bb c op m rv vv sv ov w) (k : w.ownsRow B' e s u n ys) (ht : 57 ≠ e) (hb : Below w.heap.size w W2) :
    w1.cell? ⟨bb, 1, none⟩ = some vv ∧ w1.cell? ⟨bb, 2, none⟩ = some sv ∧ w1.cell? ⟨bb, 3, none⟩ = some ov ∧ w1.cell? ⟨bb, 4, none⟩ = some (.int .i64 (m : Int)) ∧ bb < w1.heap.size ∧ ∀ i, w1.frozen? ⟨bb, i, none⟩ = false := by
  obtain ⟨_, c1, c2, c3, c4, hl, hf⟩ := five (grown_blk (owns_below k hb) (bd_keep h hb).blk ht hgrow)
  exact ⟨c1, c2, c3, c4, hl, hf⟩
/-- A block below the rows has turned. -/
theorem bd_low {j : Nat} (h : BdIs w0 B bb c op m rv vv sv ov w) (hg : w.grownBy w' (some j)) (hj : j < B) (hne : bb ≠ j) : BdIs w' B bb c op m rv vv sv ov w' := by
  have T : ∀ e, Tp B B w w' e := fun e _ _ _ _ k => k.kept hg (.inr fun he => by have := (k.lt _ he).1; omega)
  exact ⟨(hg.block bb (lt_of_block h.blk) (by simpa using hne)).trans h.blk, T _ _ _ _ _ h.vars, T _ _ _ _ _ h.sts, rows_tp h.rows ⟨T _, T _, T _⟩ (T _) (T _), T _ _ _ _ _ h.opn, h.low, Nat.le_trans h.top hg.size, fr_refl _ _ _⟩
theorem bd_base (h : BdIs w0 B bb c op m rv vv sv ov w) : BdIs w B bb c op m rv vv sv ov w := ⟨h.blk, h.vars, h.sts, h.rows, h.opn, h.low, h.top, fr_refl _ _ _⟩
/-- A row of a state's has grown: its cell is written. -/
theorem bd_put {i r g cap n sb scap : Nat} {s : St} (h : BdIs w0 B bb c op m rv vv (.slice (some ⟨sb, 0, none⟩) c.states.length scap) ov w) (hr : r < 3) (hi : i < c.states.length) {t z : Nat} {ys : List Value} (hk : w.ownsRow B t z (rv (3 * i + r)) n ys) (ht : t = ct0.blk ∨ t = ct0.tr) (hg : w.grownBy w' (rv (3 * i + r)).ownBlock)
    (h1 : s.name = c.states[i].name) (h2 : s.kind = c.states[i].kind) (h3 : s.parent = c.states[i].parent) (h4 : s.start = c.states[i].start)
    (hR : RowsAt ct0 B w' (c.states.set i s) (updV rv (3 * i + r) (.slice (some ⟨g, 0, none⟩) (n + 1) cap))) :
    BdIs w0 B bb { c with states := c.states.set i s } op m (updV rv (3 * i + r) (.slice (some ⟨g, 0, none⟩) (n + 1) cap)) vv (.slice (some ⟨sb, 0, none⟩) c.states.length scap) ov (w'.setCell ⟨sb, i * 7 + (4 + r), none⟩ (.slice (some ⟨g, 0, none⟩) (n + 1) cap)) := by
  have hne : ct0.vr ≠ t ∧ ct0.st ≠ t ∧ 3 ≠ t ∧ 57 ≠ t := by rcases ht with rfl | rfl <;> decide
  have hb := grown_blk hk h.blk hne.2.2.2 hg
  have t1 := tp_grown (B := B) hk hne.1 hg _ _ _ _ h.vars
  have t2 := tp_grown (B := B) hk hne.2.1 hg _ _ _ _ h.sts
  have t4 := tp_grown (B := B) hk hne.2.2.1 hg _ _ _ _ h.opn
  obtain ⟨cur, hcur⟩ : ∃ cur, w'.heap[sb]? = some (.cells cur ct0.st (0, 0)) := by
    rcases t2.2 with ⟨h0, _⟩ | ⟨g', cap', cur, hv, _, hh, _⟩
    · cases h0
    · cases hv; exact ⟨cur, hh⟩
  have hbs : bb ≠ sb := fun e => by rw [← e, hb] at hcur; cases hcur
  have hput := own_put (j := i * 7 + (4 + r)) (u := .slice (some ⟨g, 0, none⟩) (n + 1) cap) t2
  rw [stsC_put hi hr h1 h2 h3 h4] at hput
  refine ⟨blk_far hb hbs, tp_set hcur (by decide) _ _ _ _ t1, ?_, rows_tp hR (fx_set hcur (by decide) (by decide) (by decide)) (tp_set hcur (by decide)) (tp_set hcur (by decide)), tp_set hcur (by decide) _ _ _ _ t4, h.low, by rw [size_set]; exact Nat.le_trans h.top hg.size, fr_trans (fr_trans h.env (fr_grown hg h.top fun j hj => (hk.lt j hj).1)) (fr_set (.inr (t2.lt sb rfl).1))⟩
  rw [List.length_set]
  exact hput
end
end Go.Proofs.YtekfnnfphhoeoaaGreatDoor

