/- Several texts of this proof, joined: XP, XQ. -/
import Derived.Test.YtmalnjmginmjkaaGreatDoorY6
import Derived.Test.YtmalnjmginmjkaaGreatDoorZ7
/- Plain: what is read between parentheses is what is read alone: the same nodes, further behind. No program. -/
namespace Go.Proofs.YtmalnjmginmjkaaGreatDoor
/-! ### Tokens -/
/-- What a reader sees of a token. -/
def key (t : Tk) : Int × List UInt8 × Int := (t.k, t.s, t.n)
theorem lexT_shift (b : Nat) : ∀ (m a : Nat) (l : List UInt8), lexT m (a + b) l = match lexT m a l with | .ok ts => .ok (ts.map fun t => ⟨t.k, t.s, t.n, t.a + b⟩) | .error (x, j) => .error (x, j + b)
  | 0, a, l => by
    rw [lexT, lexT]
    split
    · rfl
    · simp only
      congr 2
      omega
  | m + 1, a, l => by
    rw [lexT, lexT]
    split
    · rfl
    · rename_i c r hd
      split
      · simp only
        congr 2
        omega
      · rename_i k t n z ht
        have ih := lexT_shift b m (a + spanL blankL l + z) ((c :: r).drop z)
        rw [show a + b + spanL blankL l + z = a + spanL blankL l + z + b by omega, ih]
        cases lexT m (a + spanL blankL l + z) ((c :: r).drop z) with
        | error x => rfl
        | ok ts =>
          simp only [List.map_cons]
          congr 3
          omega
theorem lexT_key {m a b : Nat} {l : List UInt8} {ts : List Tk} (h : lexT m a l = .ok ts) : ∃ us, lexT m (a + b) l = .ok us ∧ us.map key = ts.map key := by
  refine ⟨_, by rw [lexT_shift, h], ?_⟩
  rw [List.map_map]
  rfl
/-- With more room the same. -/
theorem lexT_room : ∀ (m a : Nat) (l : List UInt8) (ts : List Tk), lexT m a l = .ok ts → ∀ k, lexT (m + k) a l = .ok ts
  | 0, a, l, ts, h, k => by
    rw [lexT] at h
    split at h
    · rename_i hd
      cases h
      rw [lexT_blanks, hd, lexT_end]
    · cases h
  | m + 1, a, l, ts, h, k => by
    rw [show m + 1 + k = m + k + 1 by omega]
    rw [lexT] at h ⊢
    split at h
    · cases h
      rfl
    · rename_i c r hd
      split at h
      · cases h
      · rename_i kk t n z ht
        split at h
        · cases h
        · rename_i us hu
          cases h
          rw [lexT_room m _ _ us hu k]
/-- A line's tokens in front of others. -/
theorem lexT_front {m a : Nat} {l r : List UInt8} {ts us : List Tk} (hr : BehindP r) (hm : m ≤ 120) (h : lexT 120 0 l = .ok ts) (hu : lexT m a (l ++ r) = .ok us) :
    ∃ ts' vs, us = ts' ++ vs ∧ ts'.map key = ts.map key ∧ ∃ k, k ≤ 120 ∧ lexT k (a + l.length) r = .ok vs := by
  obtain ⟨ts', h1, h2⟩ := lexT_key (b := a) h
  rw [Nat.zero_add] at h1
  have h3 := lexT_aheadP r hr 120 a l ts' h1
  have h4 := lexT_room m a (l ++ r) us hu (120 - m)
  rw [show m + (120 - m) = 120 by omega, h3] at h4
  cases hv : lexT (120 - ts'.length) (a + l.length) r with
  | error x => rw [hv] at h4; cases h4
  | ok vs =>
    rw [hv] at h4
    cases h4
    exact ⟨ts', vs, rfl, h2, _, by omega, hv⟩
theorem lexT_sign {m a : Nat} {c : UInt8} {r : List UInt8} {us : List Tk} (hc : c = 40 ∨ c = 41) (h : lexT m a (c :: r) = .ok us) : ∃ t vs, us = t :: vs ∧ key t = (5, [c], 0) ∧ ∃ k, k ≤ m ∧ lexT k (a + 1) r = .ok vs := by
  have hb : ((c.toNat : Int) == 32) = false := by rcases hc with rfl | rfl <;> rfl
  have ht : tokT (c :: r) = .ok (5, [c], 0, 1) := by rcases hc with rfl | rfl <;> rfl
  cases m with
  | zero => rw [lexT_many _ _ _ hb] at h; cases h
  | succ m =>
    rw [lexT_tok m a c r 5 [c] 0 1 hb ht, List.drop_succ_cons, List.drop_zero] at h
    cases hv : lexT m (a + 1) r with
    | error x => rw [hv] at h; cases h
    | ok vs =>
      rw [hv] at h
      cases h
      exact ⟨_, vs, rfl, rfl, m, by omega, hv⟩
/-- A word between two blanks. -/
theorem lexT_word {m a : Nat} {x r : List UInt8} {k : Int} {us : List Tk} (hx : tokT x = .ok (k, x, 0, x.length)) (h : lexT m a (32 :: (x ++ 32 :: r)) = .ok us) : ∃ t vs, us = t :: vs ∧ key t = (k, x, 0) ∧ ∃ q, q ≤ m ∧ lexT q (a + 1 + x.length + 1) r = .ok vs := by
  rw [lexT_blank _ _ _ _ rfl] at h
  have h1 := tokT_ahead (r := 32 :: r) (.inr ⟨_, _, rfl, .inl rfl⟩) hx
  cases x with
  | nil => cases hx
  | cons c q =>
    have hnb : ((c.toNat : Int) == 32) = false := by
      rw [← Bool.not_eq_true]
      intro h32
      rw [show ((c.toNat : Int) == 32) = (c == 32) from byte_eq c 32 (by decide), beq_iff_eq] at h32
      subst h32
      rw [tokT_blank] at hx
      cases hx
    cases m with
    | zero => rw [List.cons_append, lexT_many _ _ _ hnb] at h; cases h
    | succ m =>
      rw [List.cons_append] at h h1
      rw [lexT_tok m _ c _ k (c :: q) 0 _ hnb h1, ← List.cons_append, List.drop_left, lexT_blank _ _ _ _ rfl] at h
      cases hv : lexT m (a + 1 + (c :: q).length + 1) r with
      | error x => rw [hv] at h; cases h
      | ok vs =>
        rw [hv] at h
        cases h
        exact ⟨_, vs, rfl, rfl, m, by omega, hv⟩
/-! ### The reader within parentheses -/
/-- The tokens ts stand in T from place o on, a parenthesis that closes behind them. -/
structure InT (T ts : List Tk) (o : Nat) : Prop where
  keys : ∀ i, i < ts.length → ∃ t t', ts[i]? = some t ∧ T[o + i]? = some t' ∧ key t' = key t
  close : ∃ t, T[o + ts.length]? = some t ∧ key t = (5, [41], 0)
/-- A node, so many places further behind. -/
def shN (d : Nat) (n : Nd) : Nd := { n with l := if 1 ≤ n.op ∧ n.op ≤ 15 then n.l + d else n.l, r := if 3 ≤ n.op ∧ n.op ≤ 15 then n.r + d else n.r }
theorem shN_leaf (d : Nat) {n : Nd} (h : n.op = 0 ∨ n.op = 16 ∨ n.op = 17) : shN d n = n := by
  unfold shN
  rw [if_neg (by omega), if_neg (by omega)]
theorem shN_zero (n : Nd) : shN 0 n = n := by
  unfold shN
  obtain ⟨op, k, nn, s, name, l, r⟩ := n
  simp
/-- A reader within parentheses. -/
def emb (o w0 : Nat) (N : List Nd) (P : List Nat) (W : List Int) (r : Rd) : Rd := ⟨o + r.at_, N ++ r.nodes.map (shN N.length), r.parts.map (· + N.length) ++ P, r.wait ++ -1 :: W, r.within + (1 + w0)⟩
theorem wordB_key {t t' : Tk} (h : key t' = key t) (x : List UInt8) : wordB t' x = wordB t x := by
  unfold key at h
  simp only [Prod.mk.injEq] at h
  unfold wordB
  rw [h.1, h.2.1]
theorem opFrom_key {t t' : Tk} (h : key t' = key t) : ∀ f i, opFrom t' f i = opFrom t f i
  | 0, _ => rfl
  | f + 1, i => by rw [opFrom, opFrom, wordB_key h, opFrom_key h f]
section
variable {T ts : List Tk} {o w0 : Nat} {N : List Nd} {P : List Nat} {W : List Int}
theorem tkAt_in (h : InT T ts o) {i : Nat} (hi : i < ts.length) (x : List UInt8) : tkAt T (o + i) x = tkAt ts i x := by
  obtain ⟨t, t', h1, h2, h3⟩ := h.keys i hi
  unfold tkAt
  rw [h1, h2]
  exact wordB_key h3 x
theorem tkAt_emb (h : InT T ts o) {i : Nat} (hi : i ≤ ts.length) (x : List UInt8) (hx : x ≠ [41]) : tkAt T (o + i) x = tkAt ts i x := by
  rcases Nat.lt_or_ge i ts.length with h1 | h1
  · exact tkAt_in h h1 x
  · obtain rfl : i = ts.length := by omega
    obtain ⟨t, h2, h3⟩ := h.close
    unfold tkAt
    rw [h2, List.getElem?_eq_none (Nat.le_refl _)]
    unfold key at h3
    simp only [Prod.mk.injEq] at h3
    simp [wordB, h3, Ne.symm hx]
theorem tkAt_close (h : InT T ts o) : tkAt T (o + ts.length) [41] = true := by
  obtain ⟨t, h2, h3⟩ := h.close
  unfold tkAt
  rw [h2]
  unfold key at h3
  simp only [Prod.mk.injEq] at h3
  simp [wordB, h3]
theorem nameAt_emb (h : InT T ts o) {i : Nat} (hi : i ≤ ts.length) : nameAt T (o + i) = nameAt ts i := by
  rcases Nat.lt_or_ge i ts.length with h1 | h1
  · obtain ⟨t, t', h2, h3, h4⟩ := h.keys i h1
    unfold nameAt
    rw [h2, h3]
    unfold key at h4
    simp only [Prod.mk.injEq] at h4
    simp [h4]
  · obtain rfl : i = ts.length := by omega
    obtain ⟨t, h2, h3⟩ := h.close
    unfold nameAt
    rw [h2, List.getElem?_eq_none (Nat.le_refl _)]
    unfold key at h3
    simp only [Prod.mk.injEq] at h3
    simp [h3]
theorem valueAt_emb (h : InT T ts o) {i : Nat} (hi : i ≤ ts.length) : valueAt T (o + i) = valueAt ts i := by
  rcases Nat.lt_or_ge i ts.length with h1 | h1
  · obtain ⟨t, t', h2, h3, h4⟩ := h.keys i h1
    unfold valueAt
    rw [h2, h3]
    simp only [wordB_key h4]
    unfold key at h4
    simp only [Prod.mk.injEq] at h4
    simp [h4]
  · obtain rfl : i = ts.length := by omega
    obtain ⟨t, h2, h3⟩ := h.close
    unfold valueAt
    rw [h2, List.getElem?_eq_none (Nat.le_refl _)]
    unfold key at h3
    simp only [Prod.mk.injEq] at h3
    simp [h3, wordB]
theorem between_emb (h : InT T ts o) {i : Nat} (hi : i ≤ ts.length) : between T (o + i) = between ts i := by
  rcases Nat.lt_or_ge i ts.length with h1 | h1
  · obtain ⟨t, t', h2, h3, h4⟩ := h.keys i h1
    unfold between
    rw [h2, h3]
    exact opFrom_key h4 _ _
  · obtain rfl : i = ts.length := by omega
    obtain ⟨t, h2, h3⟩ := h.close
    unfold between
    rw [h2, List.getElem?_eq_none (Nat.le_refl _)]
    unfold key at h3
    simp only [Prod.mk.injEq] at h3
    simp [opFrom, h3, wordB, signL]
theorem ahead_emb (h : InT T ts o) {r : Rd} (hi : r.at_ ≤ ts.length) : ahead T (emb o w0 N P W r) = (ahead ts r).map (emb o w0 N P W) := by
  unfold ahead
  show (if tkAt T (o + r.at_) _ then _ else if tkAt T (o + r.at_) _ then _ else if tkAt T (o + r.at_) _ then _ else _) = _
  rw [tkAt_emb h hi _ (by decide), tkAt_emb h hi _ (by decide), tkAt_emb h hi _ (by decide)]
  split
  · rfl
  · split
    · rfl
    · split
      · simp only [Option.map_some, emb, Option.some.injEq, Rd.mk.injEq]
        refine ⟨by omega, ?_, ?_, ?_, by omega⟩ <;> first | rfl | trivial
      · rfl
theorem aheads_emb (h : InT T ts o) : ∀ (f : Nat) {r : Rd}, Good 0 ts r → aheads f T (emb o w0 N P W r) = emb o w0 N P W (aheads f ts r)
  | 0, _, _ => rfl
  | f + 1, r, g => by
    rw [aheads, aheads, ahead_emb h g.at_]
    cases ha : ahead ts r with
    | none => rfl
    | some r' => exact aheads_emb h f (ahead_good g ha).1
theorem add_emb (n : Nd) (r : Rd) : { (emb o w0 N P W r).add (shN N.length n) with at_ := (emb o w0 N P W r).at_ + 1 } = emb o w0 N P W { r.add n with at_ := r.at_ + 1 } := by
  simp only [emb, Rd.add, List.map_append, List.map_cons, List.map_nil, List.append_assoc, List.length_append, List.length_map, List.cons_append, Rd.mk.injEq]
  refine ⟨by omega, ?_, ?_, ?_, ?_⟩ <;> first | rfl | trivial | (congr 1; omega)
theorem rname_emb (h : InT T ts o) {op : Int} (ho : op = 16 ∨ op = 17) {r : Rd} (hi : r.at_ ≤ ts.length) : rname op T (emb o w0 N P W r) = (rname op ts r).map (emb o w0 N P W) := by
  unfold rname
  show (match nameAt T (o + r.at_) with | some s => _ | none => _) = _
  rw [nameAt_emb h hi]
  cases nameAt ts r.at_ with
  | none => rfl
  | some s =>
    simp only [Option.map_some]
    rw [← add_emb, shN_leaf _ (by rcases ho with rfl | rfl <;> simp)]
theorem valueAt_op {a : Nat} {n : Nd} (h : valueAt ts a = some n) : n.op = 0 := by
  unfold valueAt at h
  split at h
  · repeat' split at h
    all_goals cases h <;> rfl
  · cases h
theorem rvalue_emb (h : InT T ts o) {r : Rd} (hi : r.at_ ≤ ts.length) : rvalue T (emb o w0 N P W r) = (rvalue ts r).map (emb o w0 N P W) := by
  unfold rvalue
  show (match valueAt T (o + r.at_) with | some s => _ | none => _) = _
  rw [valueAt_emb h hi]
  cases hv : valueAt ts r.at_ with
  | none => rfl
  | some n =>
    simp only [Option.map_some]
    rw [← add_emb, shN_leaf _ (.inl (valueAt_op hv))]
theorem takes_emb (h : InT T ts o) {x : List UInt8} (hx : x ≠ [41]) {r : Rd} (hi : r.at_ ≤ ts.length) : takes T x (emb o w0 N P W r) = (takes ts x r).map (emb o w0 N P W) := by
  unfold takes
  show (if tkAt T (o + r.at_) x then _ else _) = _
  rw [tkAt_emb h hi x hx]
  split <;> rfl
theorem takes_some_emb (h : InT T ts o) {x : List UInt8} {r r' : Rd} (hs : takes ts x r = some r') : takes T x (emb o w0 N P W r) = some (emb o w0 N P W r') := by
  unfold takes at hs ⊢
  show (if tkAt T (o + r.at_) x then _ else _) = _
  split at hs
  · rename_i ht
    rw [tkAt_in h (tkAt_lt ht) x, ht]
    cases hs
    rfl
  · cases hs
theorem atom_emb (h : InT T ts o) {r r' : Rd} (g : Good 0 ts r) (ha : atom ts r = some r') : atom T (emb o w0 N P W r) = some (emb o w0 N P W r') := by
  unfold atom at ha ⊢
  rw [takes_emb h (by decide) g.at_, rname_emb h (.inl rfl) g.at_, rvalue_emb h g.at_]
  split at ha
  · rename_i r1 h1
    obtain ⟨g1, _⟩ := takes_good g h1
    simp only [h1, Option.map_some]
    rw [takes_emb h (by decide) g1.at_]
    split at ha
    · rename_i r2 h2
      obtain ⟨g2, _⟩ := takes_good g1 h2
      simp only [h2, Option.map_some]
      rw [rname_emb h (.inr rfl) g2.at_]
      split at ha
      · rename_i r3 h3
        simp only [h3, Option.map_some]
        exact takes_some_emb h ha
      · cases ha
    · cases ha
  · rename_i h1
    simp only [h1, Option.map_none]
    split at ha
    · rename_i r1 h2
      cases ha
      simp only [h2, Option.map_some]
    · rename_i h2
      simp only [h2, Option.map_none, ha, Option.map_some]
theorem opn_sh {op : Int} (ho : 1 ≤ op ∧ op ≤ 15) {ps : List Nat} (hp : ps.length = cnt op) (d : Nat) : shN d (opn op ps) = opn op (ps.map (· + d)) := by
  have hc := cnt_of ho
  unfold shN opn
  by_cases h3 : 3 ≤ op
  · rw [if_pos h3] at hc
    match ps, hp with
    | [a, b], _ =>
      simp only [List.map_cons, List.map_nil, List.getD_cons_zero, List.getD_cons_succ, Nd.mk.injEq, true_and]
      rw [if_pos ho, if_pos ⟨h3, ho.2⟩]
      exact ⟨rfl, rfl⟩
    | [], hp => simp at hp; omega
    | [_], hp => simp at hp; omega
    | _ :: _ :: _ :: _, hp => simp at hp; omega
  · rw [if_neg h3] at hc
    match ps, hp with
    | [a], _ =>
      simp only [List.map_cons, List.map_nil, List.getD_cons_zero, Nd.mk.injEq, true_and]
      rw [if_pos ho, if_neg (by omega)]
      exact ⟨rfl, rfl⟩
    | [], hp => simp at hp; omega
    | _ :: _ :: _, hp => simp at hp; omega
theorem popOp_emb {op : Int} (ho : 1 ≤ op ∧ op ≤ 15) (ws : List Int) {r : Rd} (hc : cnt op ≤ r.parts.length) : popOp op (ws ++ -1 :: W) (emb o w0 N P W r) = emb o w0 N P W (popOp op ws r) := by
  have hl : (r.parts.map (· + N.length)).length = r.parts.length := List.length_map _
  have h1 : (r.parts.map (· + N.length) ++ P).take (cnt op) = (r.parts.take (cnt op)).map (· + N.length) := by
    rw [List.take_append_of_le_length (by omega), List.map_take]
  have h2 : (r.parts.map (· + N.length) ++ P).drop (cnt op) = (r.parts.drop (cnt op)).map (· + N.length) ++ P := by
    rw [List.drop_append_of_le_length (by omega), List.map_drop]
  have h3 := opn_sh ho (ps := (r.parts.take (cnt op)).reverse) (by rw [List.length_reverse, List.length_take]; omega) N.length
  rw [List.map_reverse] at h3
  simp only [popOp, Rd.add, emb, h1, h2, List.map_append, List.map_cons, List.map_nil, h3, List.append_assoc, List.length_append, List.length_map, List.cons_append]
  congr 2
  omega
theorem finL_emb {least : Int} (hl : 1 ≤ least) : ∀ (ws : List Int) {r : Rd}, r.wait = ws → Good 1 ts r → finL least (ws ++ -1 :: W) (emb o w0 N P W r) = emb o w0 N P W (finL least ws r)
  | [], r, _, _ => by
    have e : finL least (-1 :: W) (emb o w0 N P W r) = { emb o w0 N P W r with wait := -1 :: W } := by
      rw [finL, if_pos (show tightI (-1) < least by show (0 : Int) < least; omega)]
    rw [List.nil_append, e]
    rfl
  | op :: ws, r, hw, g => by
    rw [List.cons_append, finL, finL]
    split
    · rfl
    · rename_i ht
      have ho := tight_open hl ht
      obtain ⟨g', hc⟩ := pop_good hw ho g
      rw [popOp_emb ((g.ops op (by rw [hw]; simp)).resolve_left ho) ws hc]
      exact finL_emb hl ws (r := popOp op ws r) rfl g'
theorem finish_emb {least : Int} (hl : 1 ≤ least) {r : Rd} (g : Good 1 ts r) : finish least (emb o w0 N P W r) = emb o w0 N P W (finish least r) := finL_emb hl _ rfl g
theorem topIs_emb {k : Int} (hk : 1 ≤ k) (ws : List Int) : topIs (ws ++ -1 :: W) k = topIs ws k := by
  cases ws with
  | nil =>
    show (tightI (-1) == k) = false
    rw [beq_eq_false_iff_ne]
    show (0 : Int) ≠ k
    omega
  | cons => rfl
theorem tight_in {op : Int} (h : 3 ≤ op ∧ op ≤ 15) : 1 ≤ tightI op := by
  unfold tightI
  repeat' split
  all_goals omega
theorem more_emb (h : InT T ts o) {r : Rd} (g : Good 1 ts r) : more T (emb o w0 N P W r) = ((more ts r).1, emb o w0 N P W (more ts r).2) := by
  have e : between T (emb o w0 N P W r).at_ = between ts r.at_ := between_emb h g.at_
  unfold more
  rw [e]
  split
  · rfl
  · rename_i hb
    have hin := (between_in ts r.at_).resolve_left (by simpa using hb)
    rw [finish_emb (left_pos hin) g]
    have e2 : topIs (emb o w0 N P W (finish (leftI (between ts r.at_)) r)).wait (tightI (between ts r.at_)) = topIs (finish (leftI (between ts r.at_)) r).wait (tightI (between ts r.at_)) := topIs_emb (tight_in hin) _
    rw [e2]
    split
    · rfl
    · have e3 := (finish_good (left_pos hin) g).2.1
      simp only [emb, List.cons_append, Prod.mk.injEq, Rd.mk.injEq, true_and]
      refine ⟨by omega, ?_⟩ <;> first | rfl | trivial
end
end Go.Proofs.YtmalnjmginmjkaaGreatDoor
/- Plain: what is read between parentheses, and what two of them with a sign between are read as. No program. -/
namespace Go.Proofs.YtmalnjmginmjkaaGreatDoor
/-! ### As many rounds as there are -/
theorem finL_at (least : Int) : ∀ (ws : List Int) (r : Rd), (finL least ws r).at_ = r.at_ ∧ (finL least ws r).within = r.within
  | [], _ => ⟨rfl, rfl⟩
  | op :: ws, r => by
    rw [finL]
    split
    · exact ⟨rfl, rfl⟩
    · have := finL_at least ws (popOp op ws r)
      exact ⟨this.1, this.2⟩
theorem finish_at (least : Int) (r : Rd) : (finish least r).at_ = r.at_ ∧ (finish least r).within = r.within := finL_at least _ r
theorem finL_move (least : Int) (a : Nat) : ∀ (ws : List Int) (r : Rd), finL least ws { r with at_ := a } = { finL least ws r with at_ := a }
  | [], _ => rfl
  | op :: ws, r => by
    rw [finL, finL]
    split
    · rfl
    · exact finL_move least a ws (popOp op ws r)
theorem finish_move (least : Int) (a : Nat) (r : Rd) : finish least { r with at_ := a } = { finish least r with at_ := a } := finL_move least a _ r
theorem close_at (r : Rd) : (close r).at_ = r.at_ + 1 := by
  unfold close
  rw [finish_move]
theorem ahead_at {ts : List Tk} {r r' : Rd} (h : ahead ts r = some r') : r'.at_ = r.at_ + 1 ∧ r.at_ < ts.length := by
  unfold ahead at h
  split at h
  · cases h; exact ⟨rfl, tkAt_lt ‹_›⟩
  · split at h
    · cases h; exact ⟨rfl, tkAt_lt ‹_›⟩
    · split at h
      · cases h; exact ⟨rfl, tkAt_lt ‹_›⟩
      · cases h
theorem aheads_stable (T : List Tk) : ∀ (F G : Nat) (r : Rd), T.length - r.at_ < F → T.length - r.at_ < G → aheads F T r = aheads G T r
  | 0, _, _, h, _ => absurd h (Nat.not_lt_zero _)
  | _ + 1, 0, _, _, h => absurd h (Nat.not_lt_zero _)
  | F + 1, G + 1, r, h1, h2 => by
    rw [aheads, aheads]
    cases ha : ahead T r with
    | none => rfl
    | some r' =>
      obtain ⟨e, hlt⟩ := ahead_at ha
      exact aheads_stable T F G r' (by omega) (by omega)
theorem closes_stable (T : List Tk) : ∀ (F G : Nat) (r : Rd), T.length - r.at_ < F → T.length - r.at_ < G → closes F T r = closes G T r
  | 0, _, _, h, _ => absurd h (Nat.not_lt_zero _)
  | _ + 1, 0, _, _, h => absurd h (Nat.not_lt_zero _)
  | F + 1, G + 1, r, h1, h2 => by
    rw [closes, closes]
    split
    · rename_i hc
      have hlt := tkAt_lt hc.2
      have e := close_at r
      exact closes_stable T F G (close r) (by omega) (by omega)
    · rfl
theorem closes_step {T : List Tk} {r : Rd} (hT : T.length < 128) (h : 0 < r.within ∧ tkAt T r.at_ [41] = true) : closes 128 T r = closes 128 T (close r) := by
  have e : closes 128 T r = closes 127 T (close r) := by
    show closes (127 + 1) T r = _
    rw [closes, if_pos h]
  have hlt := tkAt_lt h.2
  have := close_at r
  rw [e]
  exact closes_stable T 127 128 _ (by omega) (by omega)
theorem closes_stop {T : List Tk} {r : Rd} (h : ¬ (0 < r.within ∧ tkAt T r.at_ [41] = true)) : closes 128 T r = r := by
  show closes (127 + 1) T r = _
  rw [closes, if_neg h]
theorem whole_stable (T : List Tk) : ∀ (F G : Nat) (r : Rd), Good 0 T r → T.length - r.at_ < F → T.length - r.at_ < G → whole F T r = whole G T r
  | 0, _, _, _, h, _ => absurd h (Nat.not_lt_zero _)
  | _ + 1, 0, _, _, _, h => absurd h (Nat.not_lt_zero _)
  | F + 1, G + 1, r, g, h1, h2 => by
    rw [whole, whole]
    cases ho : one T r with
    | none => rfl
    | some r1 =>
      obtain ⟨g1, e1⟩ := one_good g ho
      obtain ⟨m1, _⟩ := more_good g1
      simp only
      cases hm : more T r1 with
      | mk b r2 =>
        rw [hm] at m1
        cases b with
        | true =>
          obtain ⟨g2, e2⟩ := m1 rfl
          simp only at g2 e2
          have := g1.at_
          exact whole_stable T F G r2 g2 (by omega) (by omega)
        | false => rfl
/-- What goes on behind a part. -/
def contW (f : Nat) (T : List Tk) (r1 : Rd) : Option Rd :=
  match more T r1 with
  | (true, r2) => whole f T r2
  | (false, r2) => if (finish 1 r2).within = 0 then some (finish 1 r2) else none
theorem whole_step {f : Nat} {T : List Tk} {r r1 : Rd} (h : one T r = some r1) : whole (f + 1) T r = contW f T r1 := by
  rw [whole, h]
  rfl
section
variable {T ts : List Tk} {o w0 : Nat} {N : List Nd} {P : List Nat} {W : List Int}
theorem close_eq (r : Rd) : close r = ⟨r.at_ + 1, (finish 1 r).nodes, (finish 1 r).parts, (finish 1 r).wait.tail, r.within - 1⟩ := by
  unfold close
  rw [finish_move]
theorem close_emb {r : Rd} (g : Good 1 ts r) (h0 : 0 < r.within) (h : tkAt ts r.at_ [41] = true) : close (emb o w0 N P W r) = emb o w0 N P W (close r) := by
  obtain ⟨_, _, u, hu⟩ := close_good g h0 h
  rw [finish_move] at hu
  simp only at hu
  rw [close_eq, close_eq, finish_emb (Int.le_refl 1) g]
  simp only [emb, hu, List.cons_append, List.tail_cons, Rd.mk.injEq]
  refine ⟨by omega, ?_, ?_, ?_, by omega⟩ <;> first | rfl | trivial
theorem closes_emb (h : InT T ts o) (hT : T.length < 128) : ∀ (f : Nat) {r : Rd}, Good 1 ts r → closes 128 T (emb o w0 N P W r) = closes 128 T (emb o w0 N P W (closes f ts r))
  | 0, _, _ => rfl
  | f + 1, r, g => by
    have e : closes (f + 1) ts r = if 0 < r.within ∧ tkAt ts r.at_ [41] = true then closes f ts (close r) else r := by rw [closes]
    rw [e]
    split
    · rename_i hc
      rw [closes_step hT (r := emb o w0 N P W r) ⟨by show 0 < r.within + (1 + w0); omega, by show tkAt T (o + r.at_) _ = _; rw [tkAt_in h (tkAt_lt hc.2)]; exact hc.2⟩, close_emb g hc.1 hc.2]
      exact closes_emb h hT f (close_good g hc.1 hc.2).1
    · rfl
theorem one_emb (h : InT T ts o) (hT : T.length < 128) {r r1 : Rd} (g : Good 0 ts r) (h1 : one ts r = some r1) : one T (emb o w0 N P W r) = some (closes 128 T (emb o w0 N P W r1)) := by
  unfold one at h1 ⊢
  rw [aheads_emb h 128 g]
  obtain ⟨g0, _⟩ := aheads_good 128 g
  split at h1
  · rename_i ra ha
    cases h1
    rw [atom_emb h g0 ha]
    simp only
    rw [closes_emb h hT 128 (atom_good g0 ha).1]
  · cases h1
/-- What there is behind the parenthesis that closes. -/
def shut (o w0 : Nat) (N : List Nd) (P : List Nat) (W : List Int) (n : Nat) (rf : Rd) : Rd := ⟨o + n + 1, N ++ rf.nodes.map (shN N.length), rf.parts.map (· + N.length) ++ P, W, w0⟩
theorem within_none {r : Rd} (g : Good 1 ts r) (h0 : (finish 1 r).within = 0) : (finish 1 r).wait = [] := by
  obtain ⟨f1, _, _, f4⟩ := finish_good (Int.le_refl 1) g
  cases hq : (finish 1 r).wait with
  | nil => rfl
  | cons p u =>
    exfalso
    have ho := f4 p u hq
    have ho1 : p = -1 := by
      rcases f1.ops p (by rw [hq]; simp) with h | h
      · exact h
      · exfalso
        unfold tightI at ho
        repeat' split at ho
        all_goals omega
    have := f1.wth
    rw [hq, opens, if_pos ho1] at this
    omega
theorem whole_emb (h : InT T ts o) (hT : T.length < 128) : ∀ (f : Nat) {r rf : Rd} (F : Nat), Good 0 ts r → whole f ts r = some rf → rf.at_ = ts.length → f ≤ F → ∃ G, F ≤ G + f ∧ whole F T (emb o w0 N P W r) = contW G T (closes 128 T (shut o w0 N P W ts.length rf))
  | 0, _, _, _, _, hw, _, _ => by cases hw
  | f + 1, r, rf, F, g, hw, hat, hF => by
    obtain ⟨F, rfl⟩ : ∃ K, F = K + 1 := ⟨F - 1, by omega⟩
    rw [whole] at hw
    cases h1 : one ts r with
    | none => rw [h1] at hw; cases hw
    | some r1 =>
      rw [h1] at hw
      simp only at hw
      obtain ⟨g1, _⟩ := one_good g h1
      obtain ⟨m1, m2⟩ := more_good g1
      rw [whole_step (one_emb h hT g h1)]
      cases hm : more ts r1 with
      | mk b r2 =>
        rw [hm] at hw m1 m2
        cases b with
        | true =>
          simp only at hw
          have hb : ¬ between ts r1.at_ = 0 := by
            intro hb
            unfold more at hm
            rw [hb] at hm
            cases hm
          have hlt := between_lt hb
          have hnc : tkAt ts r1.at_ [41] = false := by
            rw [← Bool.not_eq_true]
            intro hc
            apply hb
            unfold tkAt at hc
            unfold between
            rw [List.getElem?_eq_getElem hlt] at hc ⊢
            simp only [wordB, Bool.and_eq_true, beq_iff_eq] at hc
            simp [opFrom, hc.2, wordB, signL]
          have hst : closes 128 T (emb o w0 N P W r1) = emb o w0 N P W r1 := closes_stop (fun hc => by
            have := hc.2
            rw [show (emb o w0 N P W r1).at_ = o + r1.at_ from rfl, tkAt_in h hlt, hnc] at this
            cases this)
          have hme := more_emb (w0 := w0) (N := N) (P := P) (W := W) h g1
          rw [hm] at hme
          obtain ⟨G, hG, e⟩ := whole_emb h hT f F (m1 rfl).1 hw hat (by omega)
          refine ⟨G, by omega, ?_⟩
          rw [hst, ← e]
          unfold contW
          rw [hme]
        | false =>
          simp only at hw
          split at hw
          · rename_i hz
            cases hw
            obtain ⟨e1, e2⟩ := finish_at 1 r2
            obtain ⟨g2, e3⟩ := m2 rfl
            simp only at e3
            have hr1 : r1.at_ = ts.length := by omega
            have hr2 : r2 = r1 := by
              unfold more at hm
              have : between ts r1.at_ = 0 := by unfold between; rw [List.getElem?_eq_none (by omega)]
              rw [this] at hm
              cases hm
              rfl
            subst hr2
            have hnw := within_none g1 hz
            refine ⟨F, by omega, ?_⟩
            rw [closes_step hT (r := emb o w0 N P W r2) ⟨by show 0 < r2.within + (1 + w0); omega, by show tkAt T (o + r2.at_) _ = _; rw [hr1]; exact tkAt_close h⟩]
            congr 2
            unfold close shut
            rw [finish_move, finish_emb (Int.le_refl 1) g1]
            simp only [emb, hnw, List.nil_append, List.tail_cons, Rd.mk.injEq]
            rw [hr1]
            refine ⟨?_, ?_, ?_, ?_, by omega⟩ <;> first | rfl | trivial
          · cases hw
end
theorem stack_head : ∀ (ns : List Nd) (i : Nat) (op st : List Nat), stackL i op ns = some st → 0 < ns.length → st.head? = some (i + ns.length - 1)
  | [], _, _, _, _, h => absurd h (Nat.lt_irrefl _)
  | n :: r, i, op, st, h, _ => by
    rw [stackL] at h
    split at h
    · rename_i op' hs
      cases r with
      | nil =>
        cases h
        unfold stepR at hs
        split at hs
        · cases hs
        · split at hs
          · cases hs
            simp
          · cases hs
      | cons m r =>
        have := stack_head (m :: r) (i + 1) op' st h (by simp)
        rw [this]
        simp only [List.length_cons]
        congr 1
        omega
    · cases h
/-- What a line is read as, whole: where the reader is at its end. -/
structure ReadAs (l : List UInt8) (ns : List Nd) (ts : List Tk) (rf : Rd) : Prop where
  lex : lexT 120 0 l = .ok ts
  whole : whole 128 ts ⟨0, [], [], [], 0⟩ = some rf
  nodes : rf.nodes = ns
  at_ : rf.at_ = ts.length
  parts : rf.parts = [ns.length - 1]
  pos : 0 < ns.length
  size : sizeT ns = 0
theorem read_as {l : List UInt8} {ns : List Nd} (h : readT l = .ok ns) : ∃ ts rf, ReadAs l ns ts rf := by
  have h0 := h
  unfold readT at h
  split at h
  · cases h
  · rename_i ts hl
    split at h
    · cases h
    · rename_i ns' n hp
      split at h
      · cases h
      · rename_i hn
        cases h
        obtain ⟨a1, _⟩ := parseT_at hp
        unfold parseT at hp
        split at hp
        · cases hp
        · split at hp
          · cases hp
          · rename_i r hr
            split at hp
            · cases hp
            · rename_i hs
              cases hp
              obtain ⟨i, h1⟩ := whole_inv (lexT_ok hl) 128 (good_start ts 0 (Nat.zero_le _)) ⟨rfl, fun n h => (by cases h)⟩ hr
              obtain ⟨hpos, _⟩ := tree_of_right (read_right h0).1
              have hh := stack_head _ _ _ _ i.stack hpos
              have hpp : r.parts = [r.nodes.length - 1] := by
                match hq : r.parts, h1 with
                | [p], _ =>
                  rw [hq] at hh
                  simp only [List.head?_cons, Option.some.injEq, Nat.zero_add] at hh
                  rw [hh]
              exact ⟨ts, r, hl, hr, rfl, by omega, hpp, hpos, Decidable.not_not.1 hs⟩
theorem one_start {T : List Tk} (hT : T.length < 128) {R : Rd} (h : ahead T R = some ⟨R.at_ + 1, R.nodes, R.parts, -1 :: R.wait, R.within + 1⟩) : one T R = one T ⟨R.at_ + 1, R.nodes, R.parts, -1 :: R.wait, R.within + 1⟩ := by
  unfold one
  have e : aheads 128 T R = aheads 128 T ⟨R.at_ + 1, R.nodes, R.parts, -1 :: R.wait, R.within + 1⟩ := by
    have e1 : aheads 128 T R = aheads 127 T ⟨R.at_ + 1, R.nodes, R.parts, -1 :: R.wait, R.within + 1⟩ := by
      show aheads (127 + 1) T R = _
      rw [aheads, h]
    rw [e1]
    exact aheads_stable T 127 128 _ (by show T.length - (R.at_ + 1) < 127; have := (ahead_at h).2; omega) (by show T.length - (R.at_ + 1) < 128; omega)
  rw [e]
theorem ahead_open {T : List Tk} {R : Rd} {t : Tk} (h : T[R.at_]? = some t) (hk : key t = (5, [40], 0)) : ahead T R = some ⟨R.at_ + 1, R.nodes, R.parts, -1 :: R.wait, R.within + 1⟩ := by
  unfold key at hk
  simp only [Prod.mk.injEq] at hk
  have e : ∀ x : List UInt8, tkAt T R.at_ x = (([40] : List UInt8) == x) := fun x => by
    unfold tkAt
    rw [h]
    simp [wordB, hk]
  unfold ahead
  rw [e, e, e]
  rfl
/-- A part in parentheses, from ahead of the one that opens. -/
theorem whole_paren {T ts : List Tk} {R rf : Rd} {l : List UInt8} {ns : List Nd} {t : Tk} {F : Nat} (hT : T.length < 128) (hR : ReadAs l ns ts rf) (hts : ts.length < 127) (ho : T[R.at_]? = some t) (hk : key t = (5, [40], 0)) (h : InT T ts (R.at_ + 1)) (hF : ts.length + 1 ≤ F) :
    ∃ G, F ≤ G + (ts.length + 1) ∧ whole F T R = contW G T (closes 128 T ⟨R.at_ + 1 + ts.length + 1, R.nodes ++ ns.map (shN R.nodes.length), (ns.length - 1 + R.nodes.length) :: R.parts, R.wait, R.within⟩) := by
  obtain ⟨F, rfl⟩ : ∃ K, F = K + 1 := ⟨F - 1, by omega⟩
  have hw := hR.whole
  rw [whole_stable ts 128 (ts.length + 1) _ (good_start ts 0 (Nat.zero_le _)) (by show ts.length - 0 < 128; omega) (by show ts.length - 0 < _; omega)] at hw
  obtain ⟨G, hG, e⟩ := whole_emb (w0 := R.within) (N := R.nodes) (P := R.parts) (W := R.wait) h hT (ts.length + 1) (F + 1) (good_start ts 0 (Nat.zero_le _)) hw hR.at_ (by omega)
  refine ⟨G, hG, ?_⟩
  have hs : whole (F + 1) T R = whole (F + 1) T (emb (R.at_ + 1) R.within R.nodes R.parts R.wait ⟨0, [], [], [], 0⟩) := by
    rw [whole, whole, one_start hT (ahead_open ho hk)]
    simp only [emb, List.map_nil, List.append_nil, List.nil_append, Nat.add_zero, Nat.zero_add]
    rw [Nat.add_comm R.within 1]
  rw [hs, e]
  simp only [shut, hR.nodes, hR.parts, List.map_cons, List.map_nil, List.singleton_append]
theorem contW_end {G : Nat} {T : List Tk} {r : Rd} (h : r.at_ = T.length) (hw : r.within = 0) : contW G T r = some (finish 1 r) := by
  have hb : between T r.at_ = 0 := by unfold between; rw [List.getElem?_eq_none (by omega)]
  have hm : more T r = (false, r) := by unfold more; rw [hb]; rfl
  unfold contW
  rw [hm]
  simp only
  rw [(finish_at 1 r).2, hw, if_pos rfl]
theorem len_key {ts us : List Tk} (h : us.map key = ts.map key) : us.length = ts.length := by
  have := congrArg List.length h
  simpa using this
/-- Tokens of the same keys, behind some and ahead of a parenthesis that closes. -/
theorem inT_of {pre us ts vs : List Tk} {c : Tk} {o : Nat} (ho : o = pre.length) (h : us.map key = ts.map key) (hc : key c = (5, [41], 0)) : InT (pre ++ (us ++ c :: vs)) ts o := by
  subst ho
  have hl := len_key h
  refine ⟨fun i hi => ?_, c, ?_, hc⟩
  · refine ⟨ts[i], us[i]'(by omega), List.getElem?_eq_getElem hi, ?_, ?_⟩
    · rw [List.getElem?_append_right (by omega), Nat.add_sub_cancel_left, List.getElem?_append_left (by omega), List.getElem?_eq_getElem (by omega)]
    · have h1 : (us.map key)[i]? = (ts.map key)[i]? := by rw [h]
      rw [List.getElem?_map, List.getElem?_map, List.getElem?_eq_getElem (by omega), List.getElem?_eq_getElem hi] at h1
      simpa using h1
  · rw [List.getElem?_append_right (by omega), Nat.add_sub_cancel_left, List.getElem?_append_right (by omega), hl, Nat.sub_self]
    rfl
/-- A line's tokens between parentheses. -/
theorem lex_paren {m a : Nat} {l r : List UInt8} {ts us : List Tk} (hm : m ≤ 120) (h : lexT 120 0 l = .ok ts) (hu : lexT m a (40 :: (l ++ 41 :: r)) = .ok us) :
    ∃ t ts' c vs, us = t :: (ts' ++ c :: vs) ∧ key t = (5, [40], 0) ∧ ts'.map key = ts.map key ∧ key c = (5, [41], 0) ∧ ∃ k b, k ≤ 120 ∧ lexT k b r = .ok vs := by
  obtain ⟨t, u1, rfl, h1, k1, hk1, hl1⟩ := lexT_sign (.inl rfl) hu
  obtain ⟨ts', u2, rfl, h2, k2, hk2, hl2⟩ := lexT_front (.inr ⟨_, _, rfl, .inr rfl⟩) (by omega) h hl1
  obtain ⟨c, vs, rfl, h3, k3, hk3, hl3⟩ := lexT_sign (.inr rfl) hl2
  exact ⟨t, ts', c, vs, rfl, h1, h2, h3, k3, _, by omega, hl3⟩
/-- A line between parentheses is read as it is read alone. -/
theorem read_paren {l : List UInt8} {ns x : List Nd} (h : readT l = .ok ns) (hx : readT (40 :: (l ++ [41])) = .ok x) : x = ns := by
  obtain ⟨ts, rf, hR⟩ := read_as h
  unfold readT at hx
  split at hx
  · cases hx
  · rename_i us hl
    have hfew := lexT_count hl
    obtain ⟨t, ts', c, vs, rfl, h1, h2, h3, k, b, _, hv⟩ := lex_paren (r := []) (Nat.le_refl 120) hR.lex hl
    rw [lexT_end] at hv
    cases hv
    have hlen := len_key h2
    simp only [List.length_cons, List.length_append, List.length_nil] at hfew
    have hT : (t :: (ts' ++ [c])).length < 128 := by simp only [List.length_cons, List.length_append, List.length_nil]; omega
    have hin : InT (t :: (ts' ++ [c])) ts 1 := inT_of (pre := [t]) rfl h2 h3
    obtain ⟨G, _, e⟩ := whole_paren (R := ⟨0, [], [], [], 0⟩) (F := 128) hT hR (by omega) rfl h1 hin (by omega)
    rw [closes_stop (fun hc => by cases hc.1), contW_end (by simp only [List.length_cons, List.length_append, List.length_nil]; omega) rfl] at e
    split at hx
    · cases hx
    · rename_i ns' n hp
      split at hx
      · cases hx
      · cases hx
        unfold parseT at hp
        split at hp
        · cases hp
        · rw [show Int.toNat 0 = 0 from rfl, e] at hp
          simp only at hp
          split at hp
          · cases hp
          · cases hp
            show ([] ++ ns.map (shN 0)) = ns
            rw [List.nil_append]
            exact (List.map_congr_left fun n _ => shN_zero n).trans (List.map_id _)
/-- Two lines between parentheses, and a sign of a word between. -/
theorem read_two {l m x : List UInt8} {ns ms y : List Nd} {op : Int} (hop : op = 14 ∧ x = [97, 110, 100] ∨ op = 15 ∧ x = [111, 114]) (h : readT l = .ok ns) (hm : readT m = .ok ms)
    (hy : readT (40 :: (l ++ 41 :: (32 :: (x ++ 32 :: (40 :: (m ++ [41])))))) = .ok y) :
    y = ns ++ ms.map (shN ns.length) ++ [⟨op, 0, 0, [], [], ((ns.length - 1 : Nat) : Int), ((ms.length - 1 + ns.length : Nat) : Int)⟩] := by
  obtain ⟨ts, rf, hR⟩ := read_as h
  obtain ⟨ss, rg, hS⟩ := read_as hm
  unfold readT at hy
  split at hy
  · cases hy
  · rename_i us hl
    have hfew := lexT_count hl
    obtain ⟨t, ts', c, vs, rfl, h1, h2, h3, k, b, hk, hv⟩ := lex_paren (Nat.le_refl 120) hR.lex hl
    have hxt : tokT x = .ok (1, x, 0, x.length) := by rcases hop with ⟨_, rfl⟩ | ⟨_, rfl⟩ <;> rfl
    obtain ⟨q, u1, rfl, hq, k1, hk1, hv1⟩ := lexT_word hxt hv
    obtain ⟨t2, ss', c2, u2, rfl, g1, g2, g3, k2, b2, _, hv2⟩ := lex_paren (r := []) (by omega) hS.lex hv1
    rw [lexT_end] at hv2
    cases hv2
    have hlen := len_key h2
    have hlen2 := len_key g2
    simp only [List.length_cons, List.length_append, List.length_nil] at hfew
    obtain ⟨T, hTd⟩ : ∃ T, t :: (ts' ++ c :: q :: t2 :: (ss' ++ [c2])) = T := ⟨_, rfl⟩
    have hTl : T.length = ts.length + ss.length + 5 := by rw [← hTd]; simp only [List.length_cons, List.length_append, List.length_nil]; omega
    have hT : T.length < 128 := by omega
    have hin : InT T ts 1 := by rw [← hTd]; exact inT_of (pre := [t]) rfl h2 h3
    have hin2 : InT T ss (ts.length + 4) := by
      rw [← hTd]
      have := inT_of (pre := t :: (ts' ++ [c, q, t2])) (us := ss') (vs := []) (o := ts.length + 4) (by simp only [List.length_cons, List.length_append, List.length_nil]; omega) g2 g3
      simpa using this
    obtain ⟨G, hG, e⟩ := whole_paren (T := T) (R := ⟨0, [], [], [], 0⟩) (F := 128) hT hR (by omega) (by rw [← hTd]; rfl) h1 hin (by omega)
    rw [closes_stop (fun hc => by cases hc.1)] at e
    have hTq : T[ts.length + 2]? = some q := by
      rw [← hTd, List.getElem?_cons_succ, List.getElem?_append_right (by omega), show ts.length + 1 - ts'.length = 1 by omega]
      rfl
    have hTt : T[ts.length + 3]? = some t2 := by
      rw [← hTd, List.getElem?_cons_succ, List.getElem?_append_right (by omega), show ts.length + 2 - ts'.length = 2 by omega]
      rfl
    have hbet : between T (ts.length + 2) = op := by
      unfold between
      rw [hTq]
      simp only
      rw [opFrom_key (t := ⟨1, x, 0, 0⟩) hq]
      rcases hop with ⟨rfl, rfl⟩ | ⟨rfl, rfl⟩ <;> rfl
    have hop3 : 3 ≤ op ∧ op ≤ 15 := by rcases hop with ⟨rfl, _⟩ | ⟨rfl, _⟩ <;> decide
    have hop0 : (op == 0) = false := beq_eq_false_iff_ne.mpr (by omega)
    simp only [List.nil_append, Nat.zero_add, Nat.add_zero, List.length_nil] at e
    have hat : 1 + ts.length + 1 = ts.length + 2 := by omega
    rw [hat] at e
    obtain ⟨ns0, hns0⟩ : ∃ z, ns.map (shN 0) = z := ⟨_, rfl⟩
    have hns : ns0 = ns := by rw [← hns0]; exact (List.map_congr_left fun n _ => shN_zero n).trans (List.map_id _)
    rw [hns0, hns] at e
    have hmore : more T ⟨ts.length + 2, ns, [ns.length - 1], [], 0⟩ = (true, ⟨ts.length + 3, ns, [ns.length - 1], [op], 0⟩) := by
      unfold more
      simp only [hbet]
      rw [hop0]
      rfl
    have e2 : contW G T ⟨ts.length + 2, ns, [ns.length - 1], [], 0⟩ = whole G T ⟨ts.length + 3, ns, [ns.length - 1], [op], 0⟩ := by
      unfold contW
      rw [hmore]
    obtain ⟨G2, _, e3⟩ := whole_paren (T := T) (R := ⟨ts.length + 3, ns, [ns.length - 1], [op], 0⟩) (F := G) hT hS (by omega) hTt g1 hin2 (by omega)
    rw [closes_stop (fun hc => by cases hc.1), contW_end (by show ts.length + 3 + 1 + ss.length + 1 = _; omega) rfl] at e3
    rw [e2, e3] at e
    have hfin : (finish 1 (⟨ts.length + 3 + 1 + ss.length + 1, ns ++ ms.map (shN ns.length), (ms.length - 1 + ns.length) :: [ns.length - 1], [op], 0⟩ : Rd)).nodes = ns ++ ms.map (shN ns.length) ++ [⟨op, 0, 0, [], [], ((ns.length - 1 : Nat) : Int), ((ms.length - 1 + ns.length : Nat) : Int)⟩] := by
      rcases hop with ⟨rfl, _⟩ | ⟨rfl, _⟩ <;> rfl
    split at hy
    · cases hy
    · rename_i ns' n hp
      split at hy
      · cases hy
      · cases hy
        rw [hTd] at hp
        unfold parseT at hp
        split at hp
        · cases hp
        · rw [show Int.toNat 0 = 0 from rfl, e] at hp
          simp only at hp
          split at hp
          · cases hp
          · cases hp
            exact hfin
end Go.Proofs.YtmalnjmginmjkaaGreatDoor
