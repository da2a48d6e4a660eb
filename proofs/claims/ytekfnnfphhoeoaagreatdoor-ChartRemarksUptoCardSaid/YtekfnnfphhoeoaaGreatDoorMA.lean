/- A chart's rows: lists of acts, transitions, states, as cells; what leaves them as they are. -/
import Derived.Test.YtekfnnfphhoeoaaGreatDoorP2
import Derived.Test.YtekfnnfphhoeoaaGreatDoorQ1
import Derived.WalkKit
import Derived.ProofKit
import Derived.OpenShut
import Derived.Handy
import Derived.BigQuiet
import Derived.OwnWalk
import Derived.OneCell
import Derived.Deep.AppendLies
import Derived.Lib.Hide
import Derived.WalkSmall
import Derived.WalkLawsBesides
namespace Go.Proofs.YtekfnnfphhoeoaaGreatDoor
open Go.RowKit
/-- Rows of a type's elements lie as they lay. -/
def Tp (B B' : Nat) (w w' : World) (e : TypeId) : Prop := ∀ (s : Nat) (v : Value) (n : Nat) (xs : List Value), w.ownsRow B e s v n xs → w'.ownsRow B' e s v n xs
section
variable {B B' : Nat} {w w' : World} {e t : TypeId}
theorem tp_below (hb : Below w.heap.size w w') : Tp B B w w' e := fun _ _ _ _ h => owns_below h hb
theorem tp_base (hB : B' ≤ B) : Tp B B' w w e := fun _ _ _ _ h => owns_base h hB
theorem tp_set {b i : Nat} {u : Value} {cells : Array Value} {fr : Nat × Nat} (hb : w.heap[b]? = some (.cells cells t fr)) (hne : t ≠ e) : Tp B B w (w.setCell ⟨b, i, none⟩ u) e := fun _ _ _ _ h => ownsRow_setCell_other h (own_ne h hb hne) _
theorem tp_grown {s m : Nat} {u : Value} {ys : List Value} (k : w.ownsRow B' t s u m ys) (hne : e ≠ t) (hg : w.grownBy w' u.ownBlock) : Tp B B w w' e := fun _ _ _ _ h => grown_other h k (own_apart h k hne) hg
end
/-- Things as cells. -/
inductive Vs {α : Type} (R : α → List Value → Prop) : List α → List Value → Prop
  | nil : Vs R [] []
  | cons {c : α} {cs : List α} {v vs : List Value} : R c v → Vs R cs vs → Vs R (c :: cs) (v ++ vs)
section
variable {α : Type} {R R' : α → List Value → Prop} {cs : List α} {vs : List Value}
theorem vs_map (h : Vs R cs vs) (hk : ∀ c v, R c v → R' c v) : Vs R' cs vs := by
  induction h with
  | nil => exact .nil
  | cons h1 _ ih => exact .cons (hk _ _ h1) ih
theorem vs_snoc {c : α} {v : List Value} (h : Vs R cs vs) (hc : R c v) : Vs R (cs ++ [c]) (vs ++ v) := by
  induction h with
  | nil =>
    have := Vs.cons hc (Vs.nil (R := R))
    rwa [List.append_nil] at this
  | cons h1 _ ih =>
    rw [List.append_assoc]
    exact .cons h1 ih
theorem vs_at {s : Nat} (h : Vs R cs vs) (hs : ∀ c v, R c v → v.length = s) : ∀ i (hi : i < cs.length), ∃ v, R cs[i] v ∧ ∀ j, j < s → vs[i * s + j]? = v[j]? := by
  induction h with
  | nil => exact fun i hi => absurd hi (Nat.not_lt_zero _)
  | @cons c cs v vs h1 _ ih =>
    have hl := hs _ _ h1
    intro i hi
    cases i with
    | zero =>
      refine ⟨v, h1, fun j hj => ?_⟩
      rw [Nat.zero_mul, Nat.zero_add, List.getElem?_append_left (by omega)]
    | succ i =>
      obtain ⟨u, h2, h3⟩ := ih i (by simpa using hi)
      have e : (i + 1) * s = i * s + s := Nat.succ_mul i s
      refine ⟨u, h2, fun j hj => ?_⟩
      rw [List.getElem?_append_right (by omega), ← h3 j hj]
      congr 1
      omega
end
/-- The types that a chart is of. -/
structure CT where
  nd : TypeId
  act : TypeId
  blk : TypeId
  tr : TypeId
  vr : TypeId
  st : TypeId
abbrev ct0 : CT := ⟨189, 163, 71, 75, 80, 49⟩
abbrev ct1 : CT := ⟨184, 182, 83, 131, 96, 94⟩
/-- What is never written again lies as it lay. -/
structure Fx (τ : CT) (B B' : Nat) (w w' : World) : Prop where
  nd : Tp B B' w w' τ.nd
  act : Tp B B' w w' τ.act
  str : Tp B B' w w' 9
section
variable {τ : CT} {B B' : Nat} {w w' : World}
theorem acRow_tp {v : Value} {cs : List Ac} (k : Fx τ B B' w w') (h : AcRow τ.nd τ.act B w v cs) : AcRow τ.nd τ.act B' w' v cs := by
  obtain ⟨vs, h1, h2⟩ := h
  exact ⟨vs, acVs_map h1 fun v n xs hv => k.nd _ _ _ _ hv, k.act _ _ _ _ h2⟩
theorem fx_below (hb : Below w.heap.size w w') : Fx τ B B w w' := ⟨tp_below hb, tp_below hb, tp_below hb⟩
theorem fx_base (hB : B' ≤ B) : Fx τ B B' w w := ⟨tp_base hB, tp_base hB, tp_base hB⟩
/-- One list of acts, as a cell. -/
def BlkR (τ : CT) (B : Nat) (w : World) (cs : List Ac) (v : List Value) : Prop := ∃ u, v = [u] ∧ AcRow τ.nd τ.act B w u cs
def BlkRow (τ : CT) (B : Nat) (w : World) (v : Value) (bs : List (List Ac)) : Prop := ∃ vs, Vs (BlkR τ B w) bs vs ∧ w.ownsRow B τ.blk 1 v bs.length vs
theorem blkR_len {cs : List Ac} {v : List Value} (h : BlkR τ B w cs v) : v.length = 1 := by
  obtain ⟨u, rfl, _⟩ := h
  rfl
theorem blkR_tp (k : Fx τ B B' w w') {cs : List Ac} {v : List Value} (h : BlkR τ B w cs v) : BlkR τ B' w' cs v := by
  obtain ⟨u, e, h⟩ := h
  exact ⟨u, e, acRow_tp k h⟩
theorem blkRow_tp (k : Fx τ B B' w w') {v : Value} {bs : List (List Ac)} (h : BlkRow τ B w v bs) (h2 : ∀ n xs, w.ownsRow B τ.blk 1 v n xs → w'.ownsRow B' τ.blk 1 v n xs) : BlkRow τ B' w' v bs := by
  obtain ⟨vs, h3, h4⟩ := h
  exact ⟨vs, vs_map h3 fun _ _ => blkR_tp k, h2 _ _ h4⟩
theorem blk_at {ao : Option Addr} {n cap : Nat} {bs : List (List Ac)} (h : BlkRow τ B w (.slice ao n cap) bs) (i : Nat) (hi : i < bs.length) : ∃ g xo xc, ao = some ⟨g, 0, none⟩ ∧ g < w.heap.size ∧ w.cell? ⟨g, i, none⟩ = some (.slice xo bs[i].length xc) ∧ AcRow τ.nd τ.act B w (.slice xo bs[i].length xc) bs[i] := by
  obtain ⟨vs, h1, h2⟩ := h
  obtain ⟨g, cap', e, hg, _, _, hc⟩ := own_head h2 (by omega)
  cases e
  obtain ⟨v, ⟨u, rfl, hu⟩, h5⟩ := vs_at h1 (fun _ _ => blkR_len) i hi
  obtain ⟨xo, xc, rfl⟩ := acRow_form hu
  exact ⟨g, xo, xc, rfl, hg, hc _ _ (by have := h5 0 (by decide); simpa using this), hu⟩
theorem blkRow_nil (τ : CT) (B : Nat) (w : World) : BlkRow τ B w (.slice none 0 0) [] := ⟨[], .nil, World.ownsRow_nil _ _ _ _⟩
/-- A transition, as cells. -/
def TrR (τ : CT) (B : Nat) (w : World) (t : Tr) (v : List Value) : Prop := ∃ iv gv tv, v = [str t.event, iv, gv, .bool t.inner, tv] ∧ w.ownsRow B τ.nd 7 iv t.cond.length (ndsC t.cond) ∧ w.ownsRow B 9 1 gv t.goes.length (strsC t.goes) ∧ AcRow τ.nd τ.act B w tv t.thn
def TrRow (τ : CT) (B : Nat) (w : World) (v : Value) (ts : List Tr) : Prop := ∃ vs, Vs (TrR τ B w) ts vs ∧ w.ownsRow B τ.tr 5 v ts.length vs
theorem trR_len {t : Tr} {v : List Value} (h : TrR τ B w t v) : v.length = 5 := by
  obtain ⟨_, _, _, rfl, _⟩ := h
  rfl
theorem trR_tp (k : Fx τ B B' w w') {t : Tr} {v : List Value} (h : TrR τ B w t v) : TrR τ B' w' t v := by
  obtain ⟨iv, gv, tv, e, h1, h2, h3⟩ := h
  exact ⟨iv, gv, tv, e, k.nd _ _ _ _ h1, k.str _ _ _ _ h2, acRow_tp k h3⟩
theorem trRow_tp (k : Fx τ B B' w w') {v : Value} {ts : List Tr} (h : TrRow τ B w v ts) (h2 : ∀ n xs, w.ownsRow B τ.tr 5 v n xs → w'.ownsRow B' τ.tr 5 v n xs) : TrRow τ B' w' v ts := by
  obtain ⟨vs, h3, h4⟩ := h
  exact ⟨vs, vs_map h3 fun _ _ => trR_tp k, h2 _ _ h4⟩
theorem tr_at {ao : Option Addr} {n cap : Nat} {ts : List Tr} (h : TrRow τ B w (.slice ao n cap) ts) (i : Nat) (hi : i < ts.length) : ∃ g io ic go gc uo uc, ao = some ⟨g, 0, none⟩ ∧ g < w.heap.size ∧ w.cell? ⟨g, i * 5, none⟩ = some (str ts[i].event) ∧ w.cell? ⟨g, i * 5 + 1, none⟩ = some (.slice io ts[i].cond.length ic) ∧
    w.cell? ⟨g, i * 5 + 2, none⟩ = some (.slice go ts[i].goes.length gc) ∧ w.cell? ⟨g, i * 5 + 3, none⟩ = some (.bool ts[i].inner) ∧ w.cell? ⟨g, i * 5 + 4, none⟩ = some (.slice uo ts[i].thn.length uc) ∧
    w.ownsRow B τ.nd 7 (.slice io ts[i].cond.length ic) ts[i].cond.length (ndsC ts[i].cond) ∧ w.ownsRow B 9 1 (.slice go ts[i].goes.length gc) ts[i].goes.length (strsC ts[i].goes) ∧ AcRow τ.nd τ.act B w (.slice uo ts[i].thn.length uc) ts[i].thn := by
  obtain ⟨vs, h1, h2⟩ := h
  obtain ⟨g, cap', e, hg, _, _, hc⟩ := own_head h2 (by omega)
  cases e
  obtain ⟨v, ⟨iv, gv, tv, rfl, k1, k2, k3⟩, h5⟩ := vs_at h1 (fun _ _ => trR_len) i hi
  obtain ⟨io, ic, rfl⟩ := own_form k1
  obtain ⟨go, gc, rfl⟩ := own_form k2
  obtain ⟨uo, uc, rfl⟩ := acRow_form k3
  exact ⟨g, io, ic, go, gc, uo, uc, rfl, hg, hc _ _ (h5 0 (by decide)), hc _ _ (h5 1 (by decide)), hc _ _ (h5 2 (by decide)), hc _ _ (h5 3 (by decide)), hc _ _ (h5 4 (by decide)), k1, k2, k3⟩
theorem trRow_nil (τ : CT) (B : Nat) (w : World) : TrRow τ B w (.slice none 0 0) [] := ⟨[], .nil, World.ownsRow_nil _ _ _ _⟩
end
/-! ### States, and variables -/
def St.lists (s : St) (r : Bool) : List (List Ac) := if r then s.exit else s.enter
def stC (s : St) (ev xv tv : Value) : List Value := [str s.name, .int .i64 s.kind, .int .i64 s.parent, str s.start, ev, xv, tv]
/-- States' cells: what rv gives are their three rows each. -/
def stsC : List St → Nat → (Nat → Value) → List Value
  | [], _, _ => []
  | s :: ss, i, rv => stC s (rv (3 * i)) (rv (3 * i + 1)) (rv (3 * i + 2)) ++ stsC ss (i + 1) rv
def vrC (v : Vr) : List Value := [str v.name, .int .i64 v.vk, .int .i64 v.vn, str v.vs]
def vrsC (vs : List Vr) : List Value := vs.flatMap vrC
theorem vrsC_snoc (vs : List Vr) (v : Vr) : vrsC (vs ++ [v]) = vrsC vs ++ vrC v := by simp [vrsC]
theorem stsC_len : ∀ (ss : List St) (k : Nat) (rv : Nat → Value), (stsC ss k rv).length = ss.length * 7
  | [], _, _ => rfl
  | s :: ss, k, rv => by
    rw [stsC, List.length_append, stsC_len ss, List.length_cons]
    show 7 + _ = _
    omega
theorem stsC_at : ∀ (ss : List St) (k : Nat) (rv : Nat → Value) (i : Nat) (h : i < ss.length) (j : Nat), j < 7 → (stsC ss k rv)[i * 7 + j]? = (stC ss[i] (rv (3 * (k + i))) (rv (3 * (k + i) + 1)) (rv (3 * (k + i) + 2)))[j]?
  | [], _, _, i, h, _, _ => absurd h (Nat.not_lt_zero _)
  | s :: ss, k, rv, 0, _, j, hj => by
    rw [stsC, Nat.zero_mul, Nat.zero_add, List.getElem?_append_left (by simpa [stC] using hj)]
    rfl
  | s :: ss, k, rv, i + 1, h, j, hj => by
    rw [stsC, List.getElem?_append_right (by simp [stC]; omega), show (i + 1) * 7 + j - (stC s (rv (3 * k)) (rv (3 * k + 1)) (rv (3 * k + 2))).length = i * 7 + j by simp [stC]; omega, stsC_at ss (k + 1) rv i (by simpa using h) j hj, show k + 1 + i = k + (i + 1) by omega]
    rfl
theorem stsC_snoc : ∀ (ss : List St) (s : St) (k : Nat) (rv : Nat → Value), stsC (ss ++ [s]) k rv = stsC ss k rv ++ stC s (rv (3 * (k + ss.length))) (rv (3 * (k + ss.length) + 1)) (rv (3 * (k + ss.length) + 2))
  | [], s, k, rv => by simp [stsC]
  | a :: ss, s, k, rv => by
    rw [List.cons_append, stsC, stsC, stsC_snoc ss s (k + 1) rv, List.append_assoc, List.length_cons, show k + 1 + ss.length = k + (ss.length + 1) by omega]
theorem stsC_ext : ∀ (ss : List St) (k : Nat) (rv rv' : Nat → Value), (∀ a, a < 3 * (k + ss.length) → rv a = rv' a) → stsC ss k rv = stsC ss k rv'
  | [], _, _, _, _ => rfl
  | s :: ss, k, rv, rv', h => by
    rw [List.length_cons] at h
    rw [stsC, stsC, h _ (by omega), h _ (by omega), h _ (by omega), stsC_ext ss (k + 1) rv rv' fun a ha => h a (by omega)]
/-- One row of one state is another one. -/
def updV (rv : Nat → Value) (a : Nat) (v : Value) : Nat → Value := fun b => if b = a then v else rv b
theorem stsC_put {ss : List St} {rv : Nat → Value} {i r : Nat} {s : St} {v : Value} (hi : i < ss.length) (hr : r < 3) (h1 : s.name = ss[i].name) (h2 : s.kind = ss[i].kind) (h3 : s.parent = ss[i].parent) (h4 : s.start = ss[i].start) :
    (stsC ss 0 rv).set (i * 7 + (4 + r)) v = stsC (ss.set i s) 0 (updV rv (3 * i + r) v) := by
  apply List.ext_getElem?
  intro p
  by_cases hp : p < ss.length * 7
  · obtain ⟨q, j, hq, hj, rfl⟩ : ∃ q j, q < ss.length ∧ j < 7 ∧ p = q * 7 + j := ⟨p / 7, p % 7, by omega, by omega, by omega⟩
    rw [stsC_at (ss.set i s) 0 _ q (by simpa using hq) j hj, List.getElem?_set]
    by_cases e : i * 7 + (4 + r) = q * 7 + j
    · obtain rfl : q = i := by omega
      obtain rfl : j = 4 + r := by omega
      rw [if_pos rfl, if_pos (by rw [stsC_len]; omega)]
      simp only [List.getElem_set_self, Nat.zero_add]
      rcases (by omega : r = 0 ∨ r = 1 ∨ r = 2) with rfl | rfl | rfl <;> simp [stC, updV]
    · rw [if_neg e, stsC_at ss 0 rv q hq j hj]
      simp only [Nat.zero_add]
      by_cases eq : q = i
      · subst eq
        simp only [List.getElem_set_self]
        have hne : j ≠ 4 + r := by omega
        rcases (by omega : j = 0 ∨ j = 1 ∨ j = 2 ∨ j = 3 ∨ j = 4 ∨ j = 5 ∨ j = 6) with rfl | rfl | rfl | rfl | rfl | rfl | rfl
        · simp [stC, h1]
        · simp [stC, h2]
        · simp [stC, h3]
        · simp [stC, h4]
        · simp [stC, updV]; omega
        · simp [stC, updV]; omega
        · simp [stC, updV]; omega
      · rw [List.getElem_set_ne (fun h => eq h.symm)]
        have k0 : updV rv (3 * i + r) v (3 * q) = rv (3 * q) := if_neg (by omega)
        have k1 : updV rv (3 * i + r) v (3 * q + 1) = rv (3 * q + 1) := if_neg (by omega)
        have k2 : updV rv (3 * i + r) v (3 * q + 2) = rv (3 * q + 2) := if_neg (by omega)
        rw [k0, k1, k2]
  · rw [List.getElem?_eq_none (by rw [List.length_set, stsC_len]; omega), List.getElem?_eq_none (by rw [stsC_len, List.length_set]; omega)]
/-- States' rows, no two of them in one block. -/
structure RowsAt (τ : CT) (B : Nat) (w : World) (ss : List St) (rv : Nat → Value) : Prop where
  ent : ∀ i, BlkRow τ B w (rv (3 * i)) (ss.getD i st0).enter
  exi : ∀ i, BlkRow τ B w (rv (3 * i + 1)) (ss.getD i st0).exit
  trs : ∀ i, TrRow τ B w (rv (3 * i + 2)) (ss.getD i st0).trans
  sep : ∀ a b, a ≠ b → (rv a).ownBlock = none ∨ (rv a).ownBlock ≠ (rv b).ownBlock
section
variable {τ : CT} {B B' : Nat} {w w' : World} {ss : List St} {rv : Nat → Value}
theorem rows_tp (h : RowsAt τ B w ss rv) (k : Fx τ B B' w w') (h1 : Tp B B' w w' τ.blk) (h2 : Tp B B' w w' τ.tr) : RowsAt τ B' w' ss rv :=
  ⟨fun i => blkRow_tp k (h.ent i) fun _ _ => h1 _ _ _ _, fun i => blkRow_tp k (h.exi i) fun _ _ => h1 _ _ _ _, fun i => trRow_tp k (h.trs i) fun _ _ => h2 _ _ _ _, h.sep⟩
/-- A further state has no rows. -/
def newV (rv : Nat → Value) (n : Nat) : Nat → Value := fun a => if a / 3 = n then .slice none 0 0 else rv a
theorem rows_snoc {s : St} (h : RowsAt τ B w ss rv) (h1 : s.enter = []) (h2 : s.exit = []) (h3 : s.trans = []) : RowsAt τ B w (ss ++ [s]) (newV rv ss.length) := by
  have hs : ∀ i, (ss ++ [s]).getD i st0 = if i = ss.length then s else ss.getD i st0 := fun i => by
    rw [getD_snoc]
    by_cases hlt : i < ss.length
    · rw [if_pos hlt, if_neg (by omega)]
    · rw [if_neg hlt]
      by_cases he : i = ss.length
      · rw [if_pos he, if_pos he]
      · rw [if_neg he, if_neg he, List.getD_eq_getElem?_getD, List.getElem?_eq_none (by omega)]
        rfl
  have hd : ∀ i r, r < 3 → newV rv ss.length (3 * i + r) = if i = ss.length then .slice none 0 0 else rv (3 * i + r) := fun i r hr => by
    unfold newV
    rw [show (3 * i + r) / 3 = i by omega]
  refine ⟨fun i => ?_, fun i => ?_, fun i => ?_, fun a b hab => ?_⟩
  · rw [hs, show 3 * i = 3 * i + 0 from rfl, hd i 0 (by decide)]
    split
    · rw [h1]; exact blkRow_nil _ _ _
    · exact h.ent i
  · rw [hs, hd i 1 (by decide)]
    split
    · rw [h2]; exact blkRow_nil _ _ _
    · exact h.exi i
  · rw [hs, hd i 2 (by decide)]
    split
    · rw [h3]; exact trRow_nil _ _ _
    · exact h.trs i
  · unfold newV
    by_cases ha : a / 3 = ss.length
    · rw [if_pos ha]; exact .inl rfl
    · rw [if_neg ha]
      by_cases hb : b / 3 = ss.length
      · rw [if_pos hb]
        cases hv : (rv a).ownBlock with
        | none => exact .inl rfl
        | some k => exact .inr fun e => by cases e
      · rw [if_neg hb]
        exact h.sep a b hab
/-- A row that has grown lies apart from the others. -/
theorem sep_grow {c g H : Nat} {v : Value} (h : ∀ a b, a ≠ b → (rv a).ownBlock = none ∨ (rv a).ownBlock ≠ (rv b).ownBlock) (hlt : ∀ a k, (rv a).ownBlock = some k → k < w.heap.size) (hv : v.ownBlock = some g) (hat : (rv c).ownBlock = some g ∨ g = H) (hH : w.heap.size ≤ H) :
    ∀ a b, a ≠ b → (updV rv c v a).ownBlock = none ∨ (updV rv c v a).ownBlock ≠ (updV rv c v b).ownBlock := by
  have key : ∀ a, a ≠ c → (rv a).ownBlock ≠ some g := fun a ha hg => by
    rcases hat with hat | rfl
    · rcases h a c ha with k | k
      · rw [k] at hg; cases hg
      · exact k (by rw [hg, hat])
    · have := hlt a _ hg
      omega
  intro a b hab
  unfold updV
  by_cases ha : a = c
  · rw [if_pos ha, if_neg (fun e => hab (by rw [ha, e])), hv]
    exact .inr fun e => key b (fun e' => hab (by rw [ha, e'])) e.symm
  · rw [if_neg ha]
    by_cases hb : b = c
    · rw [if_pos hb, hv]
      exact .inr (key a ha)
    · rw [if_neg hb]
      exact h a b hab
theorem rows_lt (h : RowsAt τ B w ss rv) : ∀ a k, (rv a).ownBlock = some k → k < w.heap.size := fun a k hk => by
  rcases (by omega : a = 3 * (a / 3) ∨ a = 3 * (a / 3) + 1 ∨ a = 3 * (a / 3) + 2) with e | e | e
  · obtain ⟨_, _, h1⟩ := h.ent (a / 3)
    rw [e] at hk
    exact (h1.lt k hk).2
  · obtain ⟨_, _, h1⟩ := h.exi (a / 3)
    rw [e] at hk
    exact (h1.lt k hk).2
  · obtain ⟨_, _, h1⟩ := h.trs (a / 3)
    rw [e] at hk
    exact (h1.lt k hk).2
end
section
variable {B : Nat} {w w' : World} {ss : List St} {rv : Nat → Value}
theorem fx_grown {τ : CT} {t s m B' : Nat} {u : Value} {ys : List Value} (k : w.ownsRow B' t s u m ys) (h1 : τ.nd ≠ t) (h2 : τ.act ≠ t) (h3 : 9 ≠ t) (hg : w.grownBy w' u.ownBlock) : Fx τ B B w w' := ⟨tp_grown k h1 hg, tp_grown k h2 hg, tp_grown k h3 hg⟩
theorem fx_set {b i t : Nat} {u : Value} {cells : Array Value} {fr : Nat × Nat} (hb : w.heap[b]? = some (.cells cells t fr)) (h1 : t ≠ ct0.nd) (h2 : t ≠ ct0.act) (h3 : t ≠ 9) : Fx ct0 B B w (w.setCell ⟨b, i, none⟩ u) := ⟨tp_set hb h1, tp_set hb h2, tp_set hb h3⟩
theorem rows_blk_other {a c : Nat} (h : RowsAt ct0 B w ss rv) (fx : Fx ct0 B B w w') (hg : w.grownBy w' (rv c).ownBlock) (hac : a ≠ c) {bs : List (List Ac)} (k : BlkRow ct0 B w (rv a) bs) : BlkRow ct0 B w' (rv a) bs :=
  blkRow_tp fx k fun _ _ ho => ho.kept hg (h.sep a c hac)
theorem rows_tr_other {a c : Nat} (h : RowsAt ct0 B w ss rv) (fx : Fx ct0 B B w w') (hg : w.grownBy w' (rv c).ownBlock) (hac : a ≠ c) {ts : List Tr} (k : TrRow ct0 B w (rv a) ts) : TrRow ct0 B w' (rv a) ts :=
  trRow_tp fx k fun _ _ ho => ho.kept hg (h.sep a c hac)
theorem upd_same (rv : Nat → Value) (a : Nat) (v : Value) : updV rv a v a = v := if_pos rfl
theorem upd_ne {a b : Nat} (rv : Nat → Value) (v : Value) (h : b ≠ a) : updV rv a v b = rv b := if_neg h
/-- What a state's list of acts comes to behind an append. -/
theorem blkrow_grown {τ : CT} {av : Value} {bs : List (List Ac)} {cs : List Ac} {u : Value} {vs : List Value} (fx : Fx τ B B w w') (hV : Vs (BlkR τ B w) bs vs) (ha : AcRow τ.nd τ.act B w av cs) (ho : w'.ownsRow B τ.blk 1 u (bs.length + 1) (vs ++ [av])) : BlkRow τ B w' u (bs ++ [cs]) :=
  ⟨vs ++ [av], vs_snoc (vs_map hV fun _ _ => blkR_tp fx) ⟨av, rfl, acRow_tp fx ha⟩, by rw [List.length_append]; exact ho⟩
theorem trow_grown {τ : CT} {v : List Value} {ts : List Tr} {t : Tr} {u : Value} {vs : List Value} (fx : Fx τ B B w w') (hV : Vs (TrR τ B w) ts vs) (ha : TrR τ B w t v) (ho : w'.ownsRow B τ.tr 5 u (ts.length + 1) (vs ++ v)) : TrRow τ B w' u (ts ++ [t]) :=
  ⟨vs ++ v, vs_snoc (vs_map hV fun _ _ => trR_tp fx) (trR_tp fx ha), by rw [List.length_append]; exact ho⟩
theorem rows_enter {i g cap n H : Nat} {s : St} (h : RowsAt ct0 B w ss rv) (hi : i < ss.length) (fx : Fx ct0 B B w w') (hg : w.grownBy w' (rv (3 * i)).ownBlock) (hn : BlkRow ct0 B w' (.slice (some ⟨g, 0, none⟩) n cap) s.enter) (hx : s.exit = (ss.getD i st0).exit) (ht : s.trans = (ss.getD i st0).trans)
    (hat : (rv (3 * i)).ownBlock = some g ∨ g = H) (hH : w.heap.size ≤ H) : RowsAt ct0 B w' (ss.set i s) (updV rv (3 * i) (.slice (some ⟨g, 0, none⟩) n cap)) := by
  refine ⟨fun j => ?_, fun j => ?_, fun j => ?_, sep_grow h.sep (rows_lt h) rfl hat hH⟩
  · rw [getD_set hi]
    by_cases hj : j = i
    · subst hj
      rw [if_pos rfl, upd_same]
      exact hn
    · rw [if_neg hj, upd_ne _ _ (by omega)]
      exact rows_blk_other h fx hg (by omega) (h.ent j)
  · rw [getD_set hi, upd_ne _ _ (by omega)]
    have := rows_blk_other h fx hg (by omega : 3 * j + 1 ≠ 3 * i) (h.exi j)
    split
    · rename_i hj; subst hj; rw [hx]; exact this
    · exact this
  · rw [getD_set hi, upd_ne _ _ (by omega)]
    have := rows_tr_other h fx hg (by omega : 3 * j + 2 ≠ 3 * i) (h.trs j)
    split
    · rename_i hj; subst hj; rw [ht]; exact this
    · exact this
theorem rows_exit {i g cap n H : Nat} {s : St} (h : RowsAt ct0 B w ss rv) (hi : i < ss.length) (fx : Fx ct0 B B w w') (hg : w.grownBy w' (rv (3 * i + 1)).ownBlock) (hn : BlkRow ct0 B w' (.slice (some ⟨g, 0, none⟩) n cap) s.exit) (hx : s.enter = (ss.getD i st0).enter) (ht : s.trans = (ss.getD i st0).trans)
    (hat : (rv (3 * i + 1)).ownBlock = some g ∨ g = H) (hH : w.heap.size ≤ H) : RowsAt ct0 B w' (ss.set i s) (updV rv (3 * i + 1) (.slice (some ⟨g, 0, none⟩) n cap)) := by
  refine ⟨fun j => ?_, fun j => ?_, fun j => ?_, sep_grow h.sep (rows_lt h) rfl hat hH⟩
  · rw [getD_set hi, upd_ne _ _ (by omega)]
    have := rows_blk_other h fx hg (by omega : 3 * j ≠ 3 * i + 1) (h.ent j)
    split
    · rename_i hj; subst hj; rw [hx]; exact this
    · exact this
  · rw [getD_set hi]
    by_cases hj : j = i
    · subst hj
      rw [if_pos rfl, upd_same]
      exact hn
    · rw [if_neg hj, upd_ne _ _ (by omega)]
      exact rows_blk_other h fx hg (by omega) (h.exi j)
  · rw [getD_set hi, upd_ne _ _ (by omega)]
    have := rows_tr_other h fx hg (by omega : 3 * j + 2 ≠ 3 * i + 1) (h.trs j)
    split
    · rename_i hj; subst hj; rw [ht]; exact this
    · exact this
theorem rows_trans {i g cap n H : Nat} {s : St} (h : RowsAt ct0 B w ss rv) (hi : i < ss.length) (fx : Fx ct0 B B w w') (hg : w.grownBy w' (rv (3 * i + 2)).ownBlock) (hn : TrRow ct0 B w' (.slice (some ⟨g, 0, none⟩) n cap) s.trans) (he : s.enter = (ss.getD i st0).enter) (hx : s.exit = (ss.getD i st0).exit)
    (hat : (rv (3 * i + 2)).ownBlock = some g ∨ g = H) (hH : w.heap.size ≤ H) : RowsAt ct0 B w' (ss.set i s) (updV rv (3 * i + 2) (.slice (some ⟨g, 0, none⟩) n cap)) := by
  refine ⟨fun j => ?_, fun j => ?_, fun j => ?_, sep_grow h.sep (rows_lt h) rfl hat hH⟩
  · rw [getD_set hi, upd_ne _ _ (by omega)]
    have := rows_blk_other h fx hg (by omega : 3 * j ≠ 3 * i + 2) (h.ent j)
    split
    · rename_i hj; subst hj; rw [he]; exact this
    · exact this
  · rw [getD_set hi, upd_ne _ _ (by omega)]
    have := rows_blk_other h fx hg (by omega : 3 * j + 1 ≠ 3 * i + 2) (h.exi j)
    split
    · rename_i hj; subst hj; rw [hx]; exact this
    · exact this
  · rw [getD_set hi]
    by_cases hj : j = i
    · subst hj
      rw [if_pos rfl, upd_same]
      exact hn
    · rw [if_neg hj, upd_ne _ _ (by omega)]
      exact rows_tr_other h fx hg (by omega) (h.trs j)
/-- An element's cell is written in its row. -/
theorem own_put {e s n cap g j : Nat} {xs : List Value} {u : Value} (h : w.ownsRow B e s (.slice (some ⟨g, 0, none⟩) n cap) n xs) : (w.setCell ⟨g, j, none⟩ u).ownsRow B e s (.slice (some ⟨g, 0, none⟩) n cap) n (xs.set j u) := by
  obtain ⟨h1, h2⟩ := h
  rcases h2 with ⟨h0, _⟩ | ⟨g', cap', cur, hv, hg, hh, hn, hcap, hsz, htake⟩
  · cases h0
  · cases hv
    refine ⟨by rw [List.length_set]; exact h1, .inr ⟨g, cap, cur.setIfInBounds j u, rfl, hg, blk_set hh, hn, hcap, by simpa using hsz, ?_⟩⟩
    rw [Array.toList_setIfInBounds, List.take_set, htake]
end
end Go.Proofs.YtekfnnfphhoeoaaGreatDoor

