/- Plain: nodes that may be an expression are a tree, each node behind those of its parts, one part's nodes ahead of the next one's. No program. -/
import Derived.Test.YtkjgfcbanlcmgaaGreatDoorXF
namespace Go.Proofs.YtkjgfcbanlcmgaaGreatDoor
/-- The nodes from lo to i are those of the tree whose whole is node i. -/
inductive Tree (ns : List Nd) : Nat → Nat → Prop
  | leaf {i : Nat} {n : Nd} (hn : ns[i]? = some n) (hc : n.op = 0 ∨ n.op = 16 ∨ n.op = 17) : Tree ns i i
  | one {lo a : Nat} {n : Nd} (hn : ns[a + 1]? = some n) (hc : n.op = 1 ∨ n.op = 2) (hl : n.l = (a : Int)) (ha : Tree ns lo a) : Tree ns lo (a + 1)
  | two {lo a b : Nat} {n : Nd} (hn : ns[b + 1]? = some n) (hc : 3 ≤ n.op ∧ n.op ≤ 15) (hl : n.l = (a : Int)) (hr : n.r = (b : Int)) (ha : Tree ns lo a) (hb : Tree ns (a + 1) b) : Tree ns lo (b + 1)
theorem Tree.le {ns : List Nd} {lo i : Nat} (h : Tree ns lo i) : lo ≤ i := by
  induction h with
  | leaf => exact Nat.le_refl _
  | one _ _ _ _ ih => omega
  | two _ _ _ _ _ _ ih1 ih2 => omega
theorem Tree.lt {ns : List Nd} {lo i : Nat} (h : Tree ns lo i) : i < ns.length := by
  cases h with
  | leaf hn => exact (List.getElem?_eq_some_iff.1 hn).1
  | one hn => exact (List.getElem?_eq_some_iff.1 hn).1
  | two hn => exact (List.getElem?_eq_some_iff.1 hn).1
theorem Tree.grow {ns : List Nd} {lo i : Nat} (h : Tree ns lo i) (ms : List Nd) : Tree (ns ++ ms) lo i := by
  have e : ∀ {k : Nat} {n : Nd}, ns[k]? = some n → (ns ++ ms)[k]? = some n := fun {k n} hk => by
    rw [List.getElem?_append_left (List.getElem?_eq_some_iff.1 hk).1]; exact hk
  induction h with
  | leaf hn hc => exact .leaf (e hn) hc
  | one hn hc hl _ ih => exact .one (e hn) hc hl ih
  | two hn hc hl hr _ _ ih1 ih2 => exact .two (e hn) hc hl hr ih1 ih2
/-- The parts that wait (the last one first) are trees, one behind the other, of all of the first k nodes. -/
inductive Cover (ns : List Nd) : List Nat → Nat → Prop
  | nil : Cover ns [] 0
  | cons {p lo : Nat} {st : List Nat} (ht : Tree ns lo p) (hs : Cover ns st lo) : Cover ns (p :: st) (p + 1)
theorem Cover.grow {ns : List Nd} {st : List Nat} {k : Nat} (h : Cover ns st k) (ms : List Nd) : Cover (ns ++ ms) st k := by
  induction h with
  | nil => exact .nil
  | cons ht _ ih => exact .cons (ht.grow ms) ih
theorem right_kind {n : Nd} {ps : List Int} (h : nright n ps = true) : (n.op = 0 ∨ n.op = 16 ∨ n.op = 17) ∨ (1 ≤ n.op ∧ n.op ≤ 15) ∧ n.l = ps.getD 0 0 ∧ n.r = ps.getD 1 0 := by
  unfold nright at h
  split at h
  · rename_i h0
    exact .inl (.inl h0)
  · split at h
    · rename_i h1
      exact .inl (.inr h1)
    · split at h
      · rename_i h2
        simp only [Bool.and_eq_true, beq_iff_eq] at h
        exact .inr ⟨h2, h.1.2, h.2⟩
      · cases h
theorem step_cover {ns : List Nd} {op op' : List Nat} {n : Nd} (hc : Cover ns op ns.length) (h : stepR ns.length op n = some op') : Cover (ns ++ [n]) op' (ns ++ [n]).length := by
  have hn : (ns ++ [n])[ns.length]? = some n := by simp
  have hlen : (ns ++ [n]).length = ns.length + 1 := by simp
  rw [hlen]
  unfold stepR at h
  split at h
  · cases h
  · rename_i hl
    split at h
    · rename_i hr
      cases h
      rcases right_kind hr with hk | ⟨hk, el, er⟩
      · have h0 : cnt n.op = 0 := by rcases hk with h | h | h <;> rw [h] <;> rfl
        rw [h0, List.drop_zero]
        exact .cons (.leaf hn hk) (hc.grow [n])
      · have hcn := cnt_of hk
        by_cases h3 : 3 ≤ n.op
        · rw [if_pos h3] at hcn
          rw [hcn] at hl el er ⊢
          match op, hc, hl, el, er with
          | [], _, hl, _, _ => simp at hl
          | [_], _, hl, _, _ => simp at hl
          | b :: a :: st, hc, _, el, er =>
            generalize hL : ns.length = L at hc hn
            cases hc with
            | cons ht hs =>
              cases hs with
              | cons ht2 hs2 =>
                have hl' : n.l = (a : Int) := by rw [el]; rfl
                have hr' : n.r = (b : Int) := by rw [er]; rfl
                exact .cons (.two hn ⟨h3, hk.2⟩ hl' hr' (ht2.grow [n]) (ht.grow [n])) (hs2.grow [n])
        · rw [if_neg h3] at hcn
          rw [hcn] at hl el er ⊢
          match op, hc, hl, el, er with
          | [], _, hl, _, _ => simp at hl
          | a :: st, hc, _, el, _ =>
            generalize hL : ns.length = L at hc hn
            cases hc with
            | cons ht hs =>
              have hl' : n.l = (a : Int) := by rw [el]; rfl
              exact .cons (.one hn (by omega) hl' (ht.grow [n])) (hs.grow [n])
    · cases h
theorem stack_cover : ∀ (ms ns : List Nd) (op st : List Nat), Cover ns op ns.length → stackL ns.length op ms = some st → Cover (ns ++ ms) st (ns ++ ms).length
  | [], ns, op, st, hc, h => by
    cases h
    rw [List.append_nil]
    exact hc
  | n :: r, ns, op, st, hc, h => by
    rw [stackL] at h
    split at h
    · rename_i op' hs
      have h1 := step_cover hc hs
      have e : (ns ++ [n]).length = ns.length + 1 := by simp
      have := stack_cover r (ns ++ [n]) op' st h1 (by rw [e]; exact h)
      rw [List.append_assoc, List.singleton_append] at this
      exact this
    · cases h
/-- Nodes that may be an expression are one tree. -/
theorem tree_of_right {ns : List Nd} (h : rightT ns = true) : 0 < ns.length ∧ Tree ns 0 (ns.length - 1) := by
  unfold rightT at h
  split at h
  · cases h
  · rw [rightL_stack] at h
    split at h
    · rename_i st hs
      have hc := stack_cover ns [] [] st .nil hs
      rw [List.nil_append] at hc
      rw [beq_iff_eq] at h
      match st, h, hc with
      | [p], _, hc =>
        generalize hL : ns.length = L at hc ⊢
        cases hc with
        | cons ht hs2 =>
          generalize hz : ([] : List Nat) = q at hs2
          cases hs2 with
          | nil => exact ⟨by omega, by simpa using ht⟩
          | cons _ _ => cases hz
    · cases h
end Go.Proofs.YtkjgfcbanlcmgaaGreatDoor

