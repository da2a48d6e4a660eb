/- Several texts of this proof, joined: XF, XG. -/
import Derived.Test.YtmalnjmginmjkaaGreatDoorY5
/- Plain: what is read may be: its nodes stand as rightT asks; and where a node's parts stand. No program. -/
namespace Go.Proofs.YtmalnjmginmjkaaGreatDoor
/-- One node more, where such parts wait. -/
def stepR (i : Nat) (op : List Nat) (n : Nd) : Option (List Nat) :=
  if op.length < cnt n.op then none else if nright n ((op.take (cnt n.op)).reverse.map fun (p : Nat) => (p : Int)) then some (i :: op.drop (cnt n.op)) else none
def stackL : Nat → List Nat → List Nd → Option (List Nat)
  | _, op, [] => some op
  | i, op, n :: r =>
    match stepR i op n with
    | some op' => stackL (i + 1) op' r
    | none => none
theorem rightL_stack : ∀ (ns : List Nd) (i : Nat) (op : List Nat), rightL i op ns = match stackL i op ns with | some st => st.length == 1 | none => false
  | [], _, _ => rfl
  | n :: r, i, op => by
    rw [rightL, stackL]
    unfold stepR
    split
    · rfl
    · split
      · exact rightL_stack r (i + 1) _
      · rfl
theorem stackL_snoc (n : Nd) : ∀ (ns : List Nd) (i : Nat) (op st : List Nat), stackL i op ns = some st → stackL i op (ns ++ [n]) = stepR (i + ns.length) st n
  | [], i, op, st, h => by
    cases h
    rw [List.nil_append, stackL]
    show _ = stepR (i + 0) op n
    rw [Nat.add_zero]
    cases stepR i op n <;> rfl
  | m :: r, i, op, st, h => by
    rw [stackL] at h
    rw [List.cons_append, stackL]
    split at h
    · rename_i op' hs
      rw [stackL_snoc n r (i + 1) op' st h, List.length_cons, show i + 1 + r.length = i + (r.length + 1) by omega]
    · cases h
theorem i64_0 : I64 0 := by unfold I64; omega
theorem i64_1 : I64 1 := by unfold I64; omega
/-- What is kept of a node that was read. -/
structure NdOk (n : Nd) : Prop where
  s : n.s.length ≤ 48
  name : n.name.length ≤ 32
  n64 : I64 n.n
structure RInv (r : Rd) : Prop where
  stack : stackL 0 [] r.nodes = some r.parts
  nds : ∀ n ∈ r.nodes, NdOk n
theorem leaf_inv {r : Rd} {n : Nd} (h : RInv r) (hc : cnt n.op = 0) (hn : nright n [] = true) (ho : NdOk n) : RInv (r.add n) := by
  refine ⟨?_, fun m hm => ?_⟩
  · show stackL 0 [] (r.nodes ++ [n]) = some (r.nodes.length :: r.parts)
    rw [stackL_snoc n _ _ _ _ h.stack]
    unfold stepR
    rw [hc, if_neg (by omega), List.take_zero, List.reverse_nil, List.map_nil, hn, Nat.zero_add, List.drop_zero]
    rfl
  · rcases List.mem_append.1 hm with h1 | h1
    · exact h.nds m h1
    · simp at h1; subst h1; exact ho
theorem op_right {op : Int} (ps : List Int) (h : 1 ≤ op ∧ op ≤ 15) : nright (opnI op ps) ps = true := by
  unfold nright opnI
  simp only
  rw [if_neg (by omega), if_neg (by omega), if_pos h]
  simp
theorem pop_inv {r : Rd} {op : Int} {ws : List Int} (h : RInv r) (ho : 1 ≤ op ∧ op ≤ 15) (hc : cnt op ≤ r.parts.length) : RInv (popOp op ws r) := by
  refine ⟨?_, fun m hm => ?_⟩
  · show stackL 0 [] (r.nodes ++ [opn op (r.parts.take (cnt op)).reverse]) = some (r.nodes.length :: r.parts.drop (cnt op))
    rw [stackL_snoc _ _ _ _ _ h.stack, Nat.zero_add, opn_I]
    unfold stepR
    show (if r.parts.length < cnt op then none else if nright (opnI op _) ((r.parts.take (cnt op)).reverse.map fun (p : Nat) => (p : Int)) = true then some (r.nodes.length :: r.parts.drop (cnt op)) else none) = _
    rw [if_neg (by omega), op_right _ ho]
    rfl
  · rcases List.mem_append.1 hm with h1 | h1
    · exact h.nds m h1
    · simp at h1
      subst h1
      exact ⟨Nat.zero_le _, Nat.zero_le _, i64_0⟩
/-! ### Tokens -/
structure TkOk (t : Tk) : Prop where
  word : t.k = 1 → meansB t.s = false → nmB t.s = true ∧ t.s.length ≤ 32
  num : t.k = 3 → 0 ≤ t.n ∧ I64 t.n
  quo : t.k = 4 → plainB t.s = true ∧ t.s.length ≤ 48
theorem tokT_num {l : List UInt8} {t : List UInt8} {n : Int} {z : Nat} (h : tokT l = .ok (3, t, n, z)) : 0 ≤ n ∧ I64 n := by
  cases l with
  | nil => cases h
  | cons c r =>
    rw [tokT] at h
    split at h
    · obtain ⟨hk, _⟩ := word_full h
      omega
    · split at h
      · unfold numT at h
        simp only at h
        split at h
        · cases h
        · split at h
          · cases h
          · simp only [Except.ok.injEq, Prod.mk.injEq] at h
            obtain ⟨_, _, rfl, _⟩ := h
            unfold I64
            omega
      · split at h
        · unfold quoT at h
          simp only at h
          repeat' split at h
          all_goals first | cases h | (simp at h)
        · unfold sgnT at h
          repeat' split at h
          all_goals first | cases h | (simp at h)
theorem tokT_quo {l : List UInt8} {t : List UInt8} {n : Int} {z : Nat} (h : tokT l = .ok (4, t, n, z)) : plainB t = true ∧ t.length ≤ 48 := by
  cases l with
  | nil => cases h
  | cons c r =>
    rw [tokT] at h
    split at h
    · obtain ⟨hk, _⟩ := word_full h
      omega
    · split at h
      · obtain ⟨hk, _⟩ := num_full h
        omega
      · split at h
        · unfold quoT at h
          simp only at h
          split at h
          · cases h
          · split at h
            · cases h
            · split at h
              · simp only [Except.ok.injEq, Prod.mk.injEq] at h
                obtain ⟨_, rfl, _, _⟩ := h
                refine ⟨‹_›, ?_⟩
                rw [List.length_take]
                omega
              · cases h
        · unfold sgnT at h
          repeat' split at h
          all_goals first | cases h | (simp at h)
theorem tokT_word {l : List UInt8} {t : List UInt8} {n : Int} {z : Nat} (h : tokT l = .ok (1, t, n, z)) : t.length ≤ 32 ∧ aloneK t = 1 := by
  constructor
  · cases l with
    | nil => cases h
    | cons c r =>
      rw [tokT] at h
      split at h
      · unfold wordT at h
        simp only at h
        split at h
        · cases h
        · rename_i hlen
          simp only [Except.ok.injEq, Prod.mk.injEq] at h
          obtain ⟨_, rfl, _, _⟩ := h
          simp only [Bool.or_eq_true, decide_eq_true_eq, not_or] at hlen
          omega
      · split at h
        · obtain ⟨hk, _⟩ := num_full h
          omega
        · split at h
          · unfold quoT at h
            simp only at h
            repeat' split at h
            all_goals first | cases h | (simp at h)
          · unfold sgnT at h
            repeat' split at h
            all_goals first | cases h | (simp at h)
  · have h2 := tokT_again (r := []) (.inl rfl) h
    have hf : fullT 1 t = t := by unfold fullT; rw [if_neg (by decide)]
    rw [hf, List.append_nil] at h2
    cases t with
    | nil => cases h2
    | cons c r =>
      have hnb : ((c.toNat : Int) == 32) = false := by
        rw [← Bool.not_eq_true]
        intro h32
        rw [show ((c.toNat : Int) == 32) = (c == 32) from byte_eq c 32 (by decide), beq_iff_eq] at h32
        subst h32
        rw [tokT_blank] at h2
        cases h2
      unfold aloneK
      rw [lexT_tok 119 0 c r 1 (c :: r) n (c :: r).length hnb h2, List.drop_length, lexT_end]
      simp [pre]
theorem lexT_ok {m a : Nat} {l : List UInt8} {ts : List Tk} (h : lexT m a l = .ok ts) : ∀ t ∈ ts, TkOk t := by
  intro t ht
  obtain ⟨l', z, hz⟩ := lexT_good h t ht
  refine ⟨fun hk hm => ?_, fun hk => ?_, fun hk => ?_⟩
  · rw [hk] at hz
    obtain ⟨h1, h2⟩ := tokT_word hz
    refine ⟨?_, h1⟩
    unfold nmB
    rw [h2, hm]
    rfl
  · rw [hk] at hz
    exact tokT_num hz
  · rw [hk] at hz
    exact tokT_quo hz
/-! ### The machine keeps it -/
section
variable {ts : List Tk}
theorem takes_inv {x : List UInt8} {r r' : Rd} (i : RInv r) (h : takes ts x r = some r') : RInv r' := by
  unfold takes at h
  split at h
  · cases h; exact ⟨i.stack, i.nds⟩
  · cases h
theorem ahead_inv {r r' : Rd} (i : RInv r) (h : ahead ts r = some r') : RInv r' := by
  unfold ahead at h
  repeat' split at h
  all_goals first | cases h
  all_goals exact ⟨i.stack, i.nds⟩
theorem aheads_inv : ∀ (f : Nat) {r : Rd}, RInv r → RInv (aheads f ts r)
  | 0, _, i => i
  | f + 1, r, i => by
    rw [aheads]
    split
    · rename_i r' h
      exact aheads_inv f (ahead_inv i h)
    · exact i
theorem name_inv (ok : ∀ t ∈ ts, TkOk t) {op : Int} (ho : op = 16 ∨ op = 17) {r r' : Rd} (i : RInv r) (h : rname op ts r = some r') : RInv r' := by
  unfold rname nameAt at h
  split at h
  · rename_i s hs
    cases h
    split at hs
    · rename_i t ht
      split at hs
      · rename_i hk
        cases hs
        rw [Bool.and_eq_true, beq_iff_eq, Bool.not_eq_true'] at hk
        obtain ⟨h1, h2⟩ := (ok t (List.mem_of_getElem? ht)).word hk.1 hk.2
        have hl : RInv (r.add ⟨op, 0, 0, [], t.s, 0, 0⟩) := leaf_inv i (by rcases ho with rfl | rfl <;> rfl) (by
          unfold nright
          simp only
          rw [if_neg (by omega), if_pos ho, h1]
          rfl) ⟨Nat.zero_le _, h2, i64_0⟩
        exact ⟨hl.stack, hl.nds⟩
      · cases hs
    · cases hs
  · cases h
theorem value_inv (ok : ∀ t ∈ ts, TkOk t) {r r' : Rd} (i : RInv r) (h : rvalue ts r = some r') : RInv r' := by
  have e0 : rightB 1 = fun (_ : Int) s => s.toList.isEmpty := by funext n s; simp [rightB]
  unfold rvalue valueAt at h
  split at h
  · rename_i n hn
    cases h
    split at hn
    · rename_i t ht
      have hok := ok t (List.mem_of_getElem? ht)
      split at hn
      · rename_i hk
        cases hn
        rw [beq_iff_eq] at hk
        obtain ⟨h1, h2⟩ := hok.num hk
        have hl : RInv (r.add ⟨0, 1, t.n, [], [], 0, 0⟩) := leaf_inv i rfl (by
          simp [nright, e0, Lib.toList_data, h1]) ⟨Nat.zero_le _, Nat.zero_le _, h2⟩
        exact ⟨hl.stack, hl.nds⟩
      · split at hn
        · rename_i hk
          cases hn
          rw [beq_iff_eq] at hk
          obtain ⟨h1, h2⟩ := hok.quo hk
          have hl : RInv (r.add ⟨0, 3, 0, t.s, [], 0, 0⟩) := leaf_inv i rfl (by
            simp [nright, rightB, h1]) ⟨h2, Nat.zero_le _, i64_0⟩
          exact ⟨hl.stack, hl.nds⟩
        · split at hn
          · cases hn
            have hl : RInv (r.add ⟨0, 2, 1, [], [], 0, 0⟩) := leaf_inv i rfl (by
              simp [nright, rightB, Lib.toList_data]) ⟨Nat.zero_le _, Nat.zero_le _, i64_1⟩
            exact ⟨hl.stack, hl.nds⟩
          · split at hn
            · cases hn
              have hl : RInv (r.add ⟨0, 2, 0, [], [], 0, 0⟩) := leaf_inv i rfl (by
                simp [nright, rightB, Lib.toList_data]) ⟨Nat.zero_le _, Nat.zero_le _, i64_0⟩
              exact ⟨hl.stack, hl.nds⟩
            · cases hn
    · cases hn
  · cases h
theorem atom_inv (ok : ∀ t ∈ ts, TkOk t) {r r' : Rd} (i : RInv r) (h : atom ts r = some r') : RInv r' := by
  unfold atom at h
  split at h
  · rename_i r1 h1
    have i1 := takes_inv i h1
    split at h
    · rename_i r2 h2
      have i2 := takes_inv i1 h2
      split at h
      · rename_i r3 h3
        exact takes_inv (name_inv ok (.inr rfl) i2 h3) h
      · cases h
    · cases h
  · split at h
    · rename_i r1 h1
      cases h
      exact name_inv ok (.inl rfl) i h1
    · exact value_inv ok i h
theorem finL_inv {least : Int} (hl : 1 ≤ least) : ∀ (ws : List Int) {r : Rd}, r.wait = ws → Good 1 ts r → RInv r → RInv (finL least ws r)
  | [], r, hw, _, i => ⟨i.stack, i.nds⟩
  | op :: ws, r, hw, g, i => by
    rw [finL]
    split
    · exact ⟨i.stack, i.nds⟩
    · rename_i ht
      have ho := tight_open hl ht
      have hp := pop_good hw ho g
      have hr := (g.ops op (by rw [hw]; simp)).resolve_left ho
      exact finL_inv hl ws (r := popOp op ws r) rfl hp.1 (pop_inv i hr hp.2)
theorem finish_inv {least : Int} (hl : 1 ≤ least) {r : Rd} (g : Good 1 ts r) (i : RInv r) : RInv (finish least r) := finL_inv hl _ rfl g i
theorem more_inv {r : Rd} (g : Good 1 ts r) (i : RInv r) : RInv (more ts r).2 := by
  unfold more
  split
  · exact i
  · rename_i hb
    have hin := (between_in ts r.at_).resolve_left (by simpa using hb)
    have h := finish_inv (left_pos hin) g i
    split
    · exact h
    · exact ⟨h.stack, h.nds⟩
theorem close_inv {r : Rd} (g : Good 1 ts r) (h : tkAt ts r.at_ [41] = true) (i : RInv r) : RInv (close r) := by
  have g' : Good 1 ts { r with at_ := r.at_ + 1 } := ⟨g.ops, g.par, Nat.le_succ_of_le g.sum, tkAt_lt h, g.wth⟩
  have := finish_inv (Int.le_refl 1) g' ⟨i.stack, i.nds⟩
  exact ⟨this.stack, this.nds⟩
theorem closes_inv : ∀ (f : Nat) {r : Rd}, Good 1 ts r → RInv r → RInv (closes f ts r)
  | 0, _, _, i => i
  | f + 1, r, g, i => by
    rw [closes]
    split
    · rename_i h
      exact closes_inv f (close_good g h.1 h.2).1 (close_inv g h.2 i)
    · exact i
theorem one_inv (ok : ∀ t ∈ ts, TkOk t) {r r' : Rd} (g : Good 0 ts r) (i : RInv r) (h : one ts r = some r') : RInv r' := by
  unfold one at h
  split at h
  · rename_i r1 h1
    cases h
    exact closes_inv 128 (atom_good (aheads_good 128 g).1 h1).1 (atom_inv ok (aheads_inv 128 i) h1)
  · cases h
/-- What is read whole: one part is left, and nothing waits. -/
theorem whole_inv (ok : ∀ t ∈ ts, TkOk t) : ∀ (f : Nat) {r r' : Rd}, Good 0 ts r → RInv r → whole f ts r = some r' → RInv r' ∧ r'.parts.length = 1
  | 0, _, _, _, _, h => by cases h
  | f + 1, r, r', g, i, h => by
    rw [whole] at h
    split at h
    · cases h
    · rename_i r1 h1
      obtain ⟨g1, _⟩ := one_good g h1
      have i1 := one_inv ok g i h1
      obtain ⟨m1, m2⟩ := more_good g1
      have mi := more_inv g1 i1
      split at h
      · rename_i r2 h2
        rw [h2] at m1 mi
        exact whole_inv ok f (m1 rfl).1 mi h
      · rename_i r2 h2
        rw [h2] at m2 mi
        have g2 := (m2 rfl).1
        obtain ⟨f1, _, _, f4⟩ := finish_good (Int.le_refl 1) g2
        have fi := finish_inv (Int.le_refl 1) g2 mi
        split at h
        · rename_i hw
          cases h
          refine ⟨fi, ?_⟩
          generalize finish 1 r2 = q at *
          cases hq : q.wait with
          | nil => rw [f1.par, hq]; rfl
          | cons o u =>
            exfalso
            have ho := f4 o u hq
            have ho1 : o = -1 := by
              rcases f1.ops o (by rw [hq]; simp) with h | h
              · exact h
              · exfalso
                unfold tightI at ho
                repeat' split at ho
                all_goals omega
            have := f1.wth
            rw [hq, opens, if_pos ho1] at this
            omega
        · cases h
end
theorem parse_right {ts : List Tk} {a : Int} {ns : List Nd} {n : Nat} (ok : ∀ t ∈ ts, TkOk t) (h : parseT ts a = .ok (ns, n)) : rightT ns = true ∧ ∀ m ∈ ns, NdOk m := by
  unfold parseT at h
  split at h
  · cases h
  · rename_i ha
    split at h
    · cases h
    · rename_i r hr
      split at h
      · cases h
      · rename_i hs
        cases h
        obtain ⟨i, h1⟩ := whole_inv ok 128 (good_start ts a.toNat (by omega)) ⟨rfl, fun n h => (by cases h)⟩ hr
        refine ⟨?_, i.nds⟩
        unfold rightT
        rw [if_neg hs, rightL_stack, i.stack]
        simp [h1]
/-- What is read may be; and its texts are short. -/
theorem read_right {l : List UInt8} {ns : List Nd} (h : readT l = .ok ns) : rightT ns = true ∧ (∀ m ∈ ns, NdOk m) ∧ ns.length ≤ 32 := by
  unfold readT at h
  split at h
  · cases h
  · rename_i ts hl
    split at h
    · cases h
    · rename_i ns' n hp
      split at h
      · cases h
      · cases h
        obtain ⟨h1, h2⟩ := parse_right (lexT_ok hl) hp
        exact ⟨h1, h2, (parseT_at hp).2⟩
/-! ### Where a node's parts stand -/
/-- A node's operation is one, and its parts stand ahead of it, at place j. -/
structure Ahead (j : Nat) (n : Nd) : Prop where
  range : n.op = 0 ∨ (1 ≤ n.op ∧ n.op ≤ 15) ∨ n.op = 16 ∨ n.op = 17
  l : 1 ≤ n.op → n.op ≤ 15 → ∃ a : Nat, n.l = a ∧ a < j
  r : 3 ≤ n.op → n.op ≤ 15 → ∃ a : Nat, n.r = a ∧ a < j
end Go.Proofs.YtmalnjmginmjkaaGreatDoor
/- Plain: nodes that may be an expression are a tree, each node behind those of its parts, one part's nodes ahead of the next one's. No program. -/
namespace Go.Proofs.YtmalnjmginmjkaaGreatDoor
/-- The nodes from lo to i are those of the tree whose whole is node i. -/
inductive Tree (ns : List Nd) : Nat → Nat → Prop
  | leaf {i : Nat} {n : Nd} (hn : ns[i]? = some n) (hc : n.op = 0 ∨ n.op = 16 ∨ n.op = 17) : Tree ns i i
  | one {lo a : Nat} {n : Nd} (hn : ns[a + 1]? = some n) (hc : n.op = 1 ∨ n.op = 2) (hl : n.l = (a : Int)) (ha : Tree ns lo a) : Tree ns lo (a + 1)
  | two {lo a b : Nat} {n : Nd} (hn : ns[b + 1]? = some n) (hc : 3 ≤ n.op ∧ n.op ≤ 15) (hl : n.l = (a : Int)) (hr : n.r = (b : Int)) (ha : Tree ns lo a) (hb : Tree ns (a + 1) b) : Tree ns lo (b + 1)
theorem Tree.le {ns : List Nd} {lo i : Nat} (h : Tree ns lo i) : lo ≤ i := by
  induction h with
  | leaf => exact Nat.le_refl _
  | one _ _ _ _ ih => omega
  | two _ _ _ _ _ _ ih1 ih2 => omega
theorem Tree.lt {ns : List Nd} {lo i : Nat} (h : Tree ns lo i) : i < ns.length := by
  cases h with
  | leaf hn => exact (List.getElem?_eq_some_iff.1 hn).1
  | one hn => exact (List.getElem?_eq_some_iff.1 hn).1
  | two hn => exact (List.getElem?_eq_some_iff.1 hn).1
theorem Tree.grow {ns : List Nd} {lo i : Nat} (h : Tree ns lo i) (ms : List Nd) : Tree (ns ++ ms) lo i := by
  have e : ∀ {k : Nat} {n : Nd}, ns[k]? = some n → (ns ++ ms)[k]? = some n := fun {k n} hk => by
    rw [List.getElem?_append_left (List.getElem?_eq_some_iff.1 hk).1]; exact hk
  induction h with
  | leaf hn hc => exact .leaf (e hn) hc
  | one hn hc hl _ ih => exact .one (e hn) hc hl ih
  | two hn hc hl hr _ _ ih1 ih2 => exact .two (e hn) hc hl hr ih1 ih2
/-- The parts that wait (the last one first) are trees, one behind the other, of all of the first k nodes. -/
inductive Cover (ns : List Nd) : List Nat → Nat → Prop
  | nil : Cover ns [] 0
  | cons {p lo : Nat} {st : List Nat} (ht : Tree ns lo p) (hs : Cover ns st lo) : Cover ns (p :: st) (p + 1)
theorem Cover.grow {ns : List Nd} {st : List Nat} {k : Nat} (h : Cover ns st k) (ms : List Nd) : Cover (ns ++ ms) st k := by
  induction h with
  | nil => exact .nil
  | cons ht _ ih => exact .cons (ht.grow ms) ih
theorem right_kind {n : Nd} {ps : List Int} (h : nright n ps = true) : (n.op = 0 ∨ n.op = 16 ∨ n.op = 17) ∨ (1 ≤ n.op ∧ n.op ≤ 15) ∧ n.l = ps.getD 0 0 ∧ n.r = ps.getD 1 0 := by
  unfold nright at h
  split at h
  · rename_i h0
    exact .inl (.inl h0)
  · split at h
    · rename_i h1
      exact .inl (.inr h1)
    · split at h
      · rename_i h2
        simp only [Bool.and_eq_true, beq_iff_eq] at h
        exact .inr ⟨h2, h.1.2, h.2⟩
      · cases h
theorem step_cover {ns : List Nd} {op op' : List Nat} {n : Nd} (hc : Cover ns op ns.length) (h : stepR ns.length op n = some op') : Cover (ns ++ [n]) op' (ns ++ [n]).length := by
  have hn : (ns ++ [n])[ns.length]? = some n := by simp
  have hlen : (ns ++ [n]).length = ns.length + 1 := by simp
  rw [hlen]
  unfold stepR at h
  split at h
  · cases h
  · rename_i hl
    split at h
    · rename_i hr
      cases h
      rcases right_kind hr with hk | ⟨hk, el, er⟩
      · have h0 : cnt n.op = 0 := by rcases hk with h | h | h <;> rw [h] <;> rfl
        rw [h0, List.drop_zero]
        exact .cons (.leaf hn hk) (hc.grow [n])
      · have hcn := cnt_of hk
        by_cases h3 : 3 ≤ n.op
        · rw [if_pos h3] at hcn
          rw [hcn] at hl el er ⊢
          match op, hc, hl, el, er with
          | [], _, hl, _, _ => simp at hl
          | [_], _, hl, _, _ => simp at hl
          | b :: a :: st, hc, _, el, er =>
            generalize hL : ns.length = L at hc hn
            cases hc with
            | cons ht hs =>
              cases hs with
              | cons ht2 hs2 =>
                have hl' : n.l = (a : Int) := by rw [el]; rfl
                have hr' : n.r = (b : Int) := by rw [er]; rfl
                exact .cons (.two hn ⟨h3, hk.2⟩ hl' hr' (ht2.grow [n]) (ht.grow [n])) (hs2.grow [n])
        · rw [if_neg h3] at hcn
          rw [hcn] at hl el er ⊢
          match op, hc, hl, el, er with
          | [], _, hl, _, _ => simp at hl
          | a :: st, hc, _, el, _ =>
            generalize hL : ns.length = L at hc hn
            cases hc with
            | cons ht hs =>
              have hl' : n.l = (a : Int) := by rw [el]; rfl
              exact .cons (.one hn (by omega) hl' (ht.grow [n])) (hs.grow [n])
    · cases h
theorem stack_cover : ∀ (ms ns : List Nd) (op st : List Nat), Cover ns op ns.length → stackL ns.length op ms = some st → Cover (ns ++ ms) st (ns ++ ms).length
  | [], ns, op, st, hc, h => by
    cases h
    rw [List.append_nil]
    exact hc
  | n :: r, ns, op, st, hc, h => by
    rw [stackL] at h
    split at h
    · rename_i op' hs
      have h1 := step_cover hc hs
      have e : (ns ++ [n]).length = ns.length + 1 := by simp
      have := stack_cover r (ns ++ [n]) op' st h1 (by rw [e]; exact h)
      rw [List.append_assoc, List.singleton_append] at this
      exact this
    · cases h
/-- Nodes that may be an expression are one tree. -/
theorem tree_of_right {ns : List Nd} (h : rightT ns = true) : 0 < ns.length ∧ Tree ns 0 (ns.length - 1) := by
  unfold rightT at h
  split at h
  · cases h
  · rw [rightL_stack] at h
    split at h
    · rename_i st hs
      have hc := stack_cover ns [] [] st .nil hs
      rw [List.nil_append] at hc
      rw [beq_iff_eq] at h
      match st, h, hc with
      | [p], _, hc =>
        generalize hL : ns.length = L at hc ⊢
        cases hc with
        | cons ht hs2 =>
          generalize hz : ([] : List Nat) = q at hs2
          cases hs2 with
          | nil => exact ⟨by omega, by simpa using ht⟩
          | cons _ _ => cases hz
    · cases h
end Go.Proofs.YtmalnjmginmjkaaGreatDoor
