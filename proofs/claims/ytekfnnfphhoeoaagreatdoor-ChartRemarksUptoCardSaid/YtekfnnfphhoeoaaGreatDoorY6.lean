/- Several texts of this proof, joined: XF, XG. -/
import Derived.Test.YtekfnnfphhoeoaaGreatDoorY5
/- Plain: what is read may be: its nodes stand as rightT asks; and where a node's parts stand. No program. -/
namespace Go.Proofs.YtekfnnfphhoeoaaGreatDoor
/-! ### Tokens -/
structure TkOk (t : Tk) : Prop where
  word : t.k = 1 → meansB t.s = false → nmB t.s = true ∧ t.s.length ≤ 32
  num : t.k = 3 → 0 ≤ t.n ∧ I64 t.n
  quo : t.k = 4 → plainB t.s = true ∧ t.s.length ≤ 48
theorem tokT_num {l : List UInt8} {t : List UInt8} {n : Int} {z : Nat} (h : tokT l = .ok (3, t, n, z)) : 0 ≤ n ∧ I64 n := by
  cases l with
  | nil => cases h
  | cons c r =>
    rw [tokT] at h
    split at h
    · obtain ⟨hk, _⟩ := word_full h
      omega
    · split at h
      · unfold numT at h
        simp only at h
        split at h
        · cases h
        · split at h
          · cases h
          · simp only [Except.ok.injEq, Prod.mk.injEq] at h
            obtain ⟨_, _, rfl, _⟩ := h
            unfold I64
            omega
      · split at h
        · unfold quoT at h
          simp only at h
          repeat' split at h
          all_goals first | cases h | (simp at h)
        · unfold sgnT at h
          repeat' split at h
          all_goals first | cases h | (simp at h)
theorem tokT_quo {l : List UInt8} {t : List UInt8} {n : Int} {z : Nat} (h : tokT l = .ok (4, t, n, z)) : plainB t = true ∧ t.length ≤ 48 := by
  cases l with
  | nil => cases h
  | cons c r =>
    rw [tokT] at h
    split at h
    · obtain ⟨hk, _⟩ := word_full h
      omega
    · split at h
      · obtain ⟨hk, _⟩ := num_full h
        omega
      · split at h
        · unfold quoT at h
          simp only at h
          split at h
          · cases h
          · split at h
            · cases h
            · split at h
              · simp only [Except.ok.injEq, Prod.mk.injEq] at h
                obtain ⟨_, rfl, _, _⟩ := h
                refine ⟨‹_›, ?_⟩
                rw [List.length_take]
                omega
              · cases h
        · unfold sgnT at h
          repeat' split at h
          all_goals first | cases h | (simp at h)
theorem tokT_word {l : List UInt8} {t : List UInt8} {n : Int} {z : Nat} (h : tokT l = .ok (1, t, n, z)) : t.length ≤ 32 ∧ aloneK t = 1 := by
  constructor
  · cases l with
    | nil => cases h
    | cons c r =>
      rw [tokT] at h
      split at h
      · unfold wordT at h
        simp only at h
        split at h
        · cases h
        · rename_i hlen
          simp only [Except.ok.injEq, Prod.mk.injEq] at h
          obtain ⟨_, rfl, _, _⟩ := h
          simp only [Bool.or_eq_true, decide_eq_true_eq, not_or] at hlen
          omega
      · split at h
        · obtain ⟨hk, _⟩ := num_full h
          omega
        · split at h
          · unfold quoT at h
            simp only at h
            repeat' split at h
            all_goals first | cases h | (simp at h)
          · unfold sgnT at h
            repeat' split at h
            all_goals first | cases h | (simp at h)
  · have h2 := tokT_again (r := []) (.inl rfl) h
    have hf : fullT 1 t = t := by unfold fullT; rw [if_neg (by decide)]
    rw [hf, List.append_nil] at h2
    cases t with
    | nil => cases h2
    | cons c r =>
      have hnb : ((c.toNat : Int) == 32) = false := by
        rw [← Bool.not_eq_true]
        intro h32
        rw [show ((c.toNat : Int) == 32) = (c == 32) from byte_eq c 32 (by decide), beq_iff_eq] at h32
        subst h32
        rw [tokT_blank] at h2
        cases h2
      unfold aloneK
      rw [lexT_tok 119 0 c r 1 (c :: r) n (c :: r).length hnb h2, List.drop_length, lexT_end]
      simp [pre]
theorem lexT_ok {m a : Nat} {l : List UInt8} {ts : List Tk} (h : lexT m a l = .ok ts) : ∀ t ∈ ts, TkOk t := by
  intro t ht
  obtain ⟨l', z, hz⟩ := lexT_good h t ht
  refine ⟨fun hk hm => ?_, fun hk => ?_, fun hk => ?_⟩
  · rw [hk] at hz
    obtain ⟨h1, h2⟩ := tokT_word hz
    refine ⟨?_, h1⟩
    unfold nmB
    rw [h2, hm]
    rfl
  · rw [hk] at hz
    exact tokT_num hz
  · rw [hk] at hz
    exact tokT_quo hz
/-! ### The machine keeps it -/
section
variable {ts : List Tk}
end
/-! ### Where a node's parts stand -/
/-- A node's operation is one, and its parts stand ahead of it, at place j. -/
structure Ahead (j : Nat) (n : Nd) : Prop where
  range : n.op = 0 ∨ (1 ≤ n.op ∧ n.op ≤ 15) ∨ n.op = 16 ∨ n.op = 17
  l : 1 ≤ n.op → n.op ≤ 15 → ∃ a : Nat, n.l = a ∧ a < j
  r : 3 ≤ n.op → n.op ≤ 15 → ∃ a : Nat, n.r = a ∧ a < j
end Go.Proofs.YtekfnnfphhoeoaaGreatDoor
/- Plain: nodes that may be an expression are a tree, each node behind those of its parts, one part's nodes ahead of the next one's. No program. -/
namespace Go.Proofs.YtekfnnfphhoeoaaGreatDoor
/-- The nodes from lo to i are those of the tree whose whole is node i. -/
inductive Tree (ns : List Nd) : Nat → Nat → Prop
  | leaf {i : Nat} {n : Nd} (hn : ns[i]? = some n) (hc : n.op = 0 ∨ n.op = 16 ∨ n.op = 17) : Tree ns i i
  | one {lo a : Nat} {n : Nd} (hn : ns[a + 1]? = some n) (hc : n.op = 1 ∨ n.op = 2) (hl : n.l = (a : Int)) (ha : Tree ns lo a) : Tree ns lo (a + 1)
  | two {lo a b : Nat} {n : Nd} (hn : ns[b + 1]? = some n) (hc : 3 ≤ n.op ∧ n.op ≤ 15) (hl : n.l = (a : Int)) (hr : n.r = (b : Int)) (ha : Tree ns lo a) (hb : Tree ns (a + 1) b) : Tree ns lo (b + 1)
theorem Tree.le {ns : List Nd} {lo i : Nat} (h : Tree ns lo i) : lo ≤ i := by
  induction h with
  | leaf => exact Nat.le_refl _
  | one _ _ _ _ ih => omega
  | two _ _ _ _ _ _ ih1 ih2 => omega
theorem Tree.lt {ns : List Nd} {lo i : Nat} (h : Tree ns lo i) : i < ns.length := by
  cases h with
  | leaf hn => exact (List.getElem?_eq_some_iff.1 hn).1
  | one hn => exact (List.getElem?_eq_some_iff.1 hn).1
  | two hn => exact (List.getElem?_eq_some_iff.1 hn).1
theorem Tree.grow {ns : List Nd} {lo i : Nat} (h : Tree ns lo i) (ms : List Nd) : Tree (ns ++ ms) lo i := by
  have e : ∀ {k : Nat} {n : Nd}, ns[k]? = some n → (ns ++ ms)[k]? = some n := fun {k n} hk => by
    rw [List.getElem?_append_left (List.getElem?_eq_some_iff.1 hk).1]; exact hk
  induction h with
  | leaf hn hc => exact .leaf (e hn) hc
  | one hn hc hl _ ih => exact .one (e hn) hc hl ih
  | two hn hc hl hr _ _ ih1 ih2 => exact .two (e hn) hc hl hr ih1 ih2
/-- The parts that wait (the last one first) are trees, one behind the other, of all of the first k nodes. -/
inductive Cover (ns : List Nd) : List Nat → Nat → Prop
  | nil : Cover ns [] 0
  | cons {p lo : Nat} {st : List Nat} (ht : Tree ns lo p) (hs : Cover ns st lo) : Cover ns (p :: st) (p + 1)
theorem Cover.grow {ns : List Nd} {st : List Nat} {k : Nat} (h : Cover ns st k) (ms : List Nd) : Cover (ns ++ ms) st k := by
  induction h with
  | nil => exact .nil
  | cons ht _ ih => exact .cons (ht.grow ms) ih
end Go.Proofs.YtekfnnfphhoeoaaGreatDoor
