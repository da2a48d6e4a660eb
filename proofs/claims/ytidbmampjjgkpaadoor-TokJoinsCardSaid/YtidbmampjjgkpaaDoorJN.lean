/- Plain: a line's tokens, joined, are the same tokens again. No program. -/
import Derived.Test.YtidbmampjjgkpaaDoorPL
import Derived.Test.YtidbmampjjgkpaaDoorT3
import Derived.WalkKit
namespace Go.Proofs.YtidbmampjjgkpaaDoor
/-- What may stand behind a token: nothing, or a blank. -/
def Behind (r : List UInt8) : Prop := r = [] ∨ ∃ q, r = 32 :: q
theorem word_behind {r : List UInt8} (h : Behind r) : spanL wordL r = 0 := by
  rcases h with rfl | ⟨q, rfl⟩
  · rfl
  · exact span_no (p := wordL) (by simp [wordL, innB, letB, digB])
theorem digit_behind {r : List UInt8} (h : Behind r) : spanL digL r = 0 := by
  rcases h with rfl | ⟨q, rfl⟩
  · rfl
  · exact span_no (p := digL) rfl
theorem word_again {r : List UInt8} (h : Behind r) : ∀ l : List UInt8, spanL wordL (l.take (spanL wordL l) ++ r) = spanL wordL l
  | [] => word_behind h
  | c :: q => by
    cases hw : wordL (c :: q)
    · rw [span_no hw]
      exact word_behind h
    · rw [span_yes hw, List.take_succ_cons, List.cons_append]
      have hw' : wordL (c :: (q.take (spanL wordL q) ++ r)) = true := by
        rw [wordL, Bool.or_eq_true, Bool.and_eq_true] at hw ⊢
        rcases hw with hi | ⟨hd, hh⟩
        · exact .inl hi
        · refine .inr ⟨hd, ?_⟩
          cases q with
          | nil => cases hh
          | cons d s =>
            have : wordL (d :: s) = true := by
              have hl : letB d = true := hh
              rw [wordL, innB, hl]; rfl
            rw [span_yes this, List.take_succ_cons]
            exact hh
      rw [span_yes hw', word_again h q]
theorem digit_again {r : List UInt8} (h : Behind r) : ∀ l : List UInt8, spanL digL (l.take (spanL digL l) ++ r) = spanL digL l
  | [] => digit_behind h
  | c :: q => by
    cases hw : digL (c :: q)
    · rw [span_no hw]
      exact digit_behind h
    · rw [span_yes hw, List.take_succ_cons, List.cons_append]
      have hw' : digL (c :: (q.take (spanL digL q) ++ r)) = true := hw
      rw [span_yes hw', digit_again h q]
theorem wordT_again {l r : List UInt8} {k : Int} {t : List UInt8} {n : Int} {z : Nat} (hr : Behind r) (h : wordT l = .ok (k, t, n, z)) : wordT (t ++ r) = .ok (k, t, n, t.length) := by
  obtain ⟨_, _, ht, hz⟩ := word_full h
  unfold wordT at h
  simp only at h
  split at h
  · cases h
  · rename_i hc
    simp only [Except.ok.injEq, Prod.mk.injEq] at h
    obtain ⟨hk, ht2, hn, hz2⟩ := h
    have hs : spanL wordL (t ++ r) = t.length := by
      have := word_again hr l
      rw [ht2] at this
      rw [this, ← hz, ← hz2, List.length_take, Nat.min_eq_left (spanL_le _ _)]
    unfold wordT
    simp only [hs, List.take_left' rfl]
    rw [ht2] at hc hk
    rw [if_neg hc, hk, hn]
theorem numT_again {l r : List UInt8} {k : Int} {t : List UInt8} {n : Int} {z : Nat} (hr : Behind r) (h : numT l = .ok (k, t, n, z)) : numT (t ++ r) = .ok (k, t, n, t.length) := by
  obtain ⟨_, ht, hz⟩ := num_full h
  unfold numT at h
  simp only at h
  split at h
  · cases h
  · rename_i hc
    split at h
    · cases h
    · rename_i hv
      simp only [Except.ok.injEq, Prod.mk.injEq] at h
      obtain ⟨hk, ht2, hn, hz2⟩ := h
      have hs : spanL digL (t ++ r) = t.length := by
        have := digit_again hr l
        rw [ht2] at this
        rw [this, ← hz, ← hz2, List.length_take, Nat.min_eq_left (spanL_le _ _)]
      unfold numT
      simp only [hs, List.take_left' rfl]
      rw [ht2] at hc hv hn
      rw [if_neg hc, if_neg hv, ← hk, hn]
theorem text_none : ∀ (l : List UInt8), ∀ d ∈ l.take (spanL textL l), d ≠ 39
  | [], d, h => by simp at h
  | c :: r, d, h => by
    cases hc : textL (c :: r)
    · rw [span_no hc] at h; simp at h
    · rw [span_yes hc, List.take_succ_cons] at h
      rcases List.mem_cons.1 h with rfl | h
      · intro he
        subst he
        cases hc
      · exact text_none r d h
theorem quoT_again {l r : List UInt8} {k : Int} {t : List UInt8} {n : Int} {z : Nat} (h : quoT l = .ok (k, t, n, z)) : quoT (t ++ 39 :: r) = .ok (k, t, n, t.length + 2) := by
  unfold quoT at h
  simp only at h
  split at h
  · cases h
  · split at h
    · cases h
    · rename_i h48
      split at h
      · rename_i hp
        simp only [Except.ok.injEq, Prod.mk.injEq] at h
        obtain ⟨hk, rfl, hn, _⟩ := h
        have hl : (l.take (spanL textL l)).length = spanL textL l := by rw [List.length_take, Nat.min_eq_left (spanL_le _ _)]
        rw [quoT_cut _ _ (text_none l), hl, if_neg h48, if_pos hp, ← hk, ← hn]
      · cases h
theorem sgnT_again {c : UInt8} {q r : List UInt8} {k : Int} {t : List UInt8} {n : Int} {z : Nat} (hr : Behind r) (h : sgnT c q = .ok (k, t, n, z)) : ∃ p, t ++ r = c :: p ∧ sgnT c p = .ok (k, t, n, t.length) := by
  unfold sgnT at h
  split at h
  · rename_i h2
    simp only [Except.ok.injEq, Prod.mk.injEq] at h
    obtain ⟨rfl, rfl, rfl, rfl⟩ := h
    rw [Bool.and_eq_true] at h2
    refine ⟨61 :: r, rfl, ?_⟩
    unfold sgnT
    rw [if_pos (by rw [h2.1]; rfl)]
    rfl
  · split at h
    · rename_i h3
      simp only [Except.ok.injEq, Prod.mk.injEq] at h
      obtain ⟨rfl, rfl, rfl, rfl⟩ := h
      refine ⟨r, rfl, ?_⟩
      unfold sgnT
      have he : eqL r = false := by
        rcases hr with rfl | ⟨q, rfl⟩ <;> rfl
      rw [he, Bool.and_false, if_neg (by decide), if_pos h3]
      rfl
    · cases h
/-- A token is read alike wherever it stands, if nothing or a blank is behind it. -/
theorem tokT_again {l r : List UInt8} {k : Int} {t : List UInt8} {n : Int} {z : Nat} (hr : Behind r) (h : tokT l = .ok (k, t, n, z)) : tokT (fullT k t ++ r) = .ok (k, t, n, (fullT k t).length) := by
  obtain ⟨f1, f2⟩ := tok_full h
  obtain ⟨z1, _, _⟩ := tokT_len h
  cases l with
  | nil => cases h
  | cons c q =>
    obtain ⟨m, hm⟩ : ∃ m, z = m + 1 := ⟨z - 1, by omega⟩
    have hhead : ∃ p, fullT k t = c :: p := ⟨q.take m, by rw [← f1, hm, List.take_succ_cons]⟩
    obtain ⟨p, hp⟩ := hhead
    rw [tokT] at h
    split at h
    · rename_i h1
      have hk := (word_full h).1
      have hf : fullT k t = t := by unfold fullT; rw [if_neg (by omega)]
      rw [hf] at hp ⊢
      have := wordT_again hr h
      rw [hp, List.cons_append] at this ⊢
      rw [tokT, if_pos h1]
      exact this
    · rename_i h1
      split at h
      · rename_i h2
        have hk := (num_full h).1
        have hf : fullT k t = t := by unfold fullT; rw [if_neg (by omega)]
        rw [hf] at hp ⊢
        have := numT_again hr h
        rw [hp, List.cons_append] at this ⊢
        rw [tokT, if_neg h1, if_pos h2]
        exact this
      · rename_i h2
        split at h
        · rename_i h3
          have hk := (quo_full h3 h).1
          have hf : fullT k t = 39 :: (t ++ [39]) := by unfold fullT; rw [if_pos hk]
          have hc : c = 39 := by
            rw [hf] at hp
            exact (List.cons.inj hp).1.symm
          subst hc
          have := quoT_again (r := r) h
          rw [hf, List.cons_append, List.append_assoc]
          rw [tokT, if_neg h1, if_neg h2, if_pos h3]
          show quoT (t ++ 39 :: r) = _
          rw [this]
          simp
        · rename_i h3
          have hk := (sgn_full h).1
          have hf : fullT k t = t := by unfold fullT; rw [if_neg (by omega)]
          rw [hf] at hp ⊢
          obtain ⟨p', h4, h5⟩ := sgnT_again hr h
          rw [h4, tokT, if_neg h1, if_neg h2, if_neg h3]
          exact h5
/-- Tokens that came of a line. -/
def GoodT (ts : List Tk) : Prop := ∀ t ∈ ts, ∃ l z, tokT l = .ok (t.k, t.s, t.n, z)
theorem lexT_good {m a : Nat} {l : List UInt8} {ts : List Tk} (h : lexT m a l = .ok ts) : GoodT ts := by
  induction m generalizing a l ts with
  | zero =>
    rw [lexT] at h
    split at h
    · cases h; intro t ht; cases ht
    · cases h
  | succ m ih =>
    rw [lexT] at h
    split at h
    · cases h; intro t ht; cases ht
    · split at h
      · cases h
      · split at h
        · cases h
        · rename_i h1 _ _ h2
          cases h
          intro t ht
          rcases List.mem_cons.1 ht with rfl | ht
          · exact ⟨_, _, h1⟩
          · exact ih h2 t ht
/-- Tokens as a line. -/
def joinT : List Tk → List UInt8
  | [] => []
  | [t] => fullT t.k t.s
  | t :: r => fullT t.k t.s ++ 32 :: joinT r
/-- The same but for where they stand. -/
def sameT : List Tk → List Tk → Prop
  | [], [] => True
  | t :: r, u :: q => t.k = u.k ∧ t.s = u.s ∧ t.n = u.n ∧ sameT r q
  | _, _ => False
theorem tokT_blank (r : List UInt8) : tokT (32 :: r) = .error 11 := by
  rw [tokT, if_neg (by decide), if_neg (by decide), if_neg (by decide)]
  unfold sgnT
  rw [show twoB 32 = false from by decide, Bool.false_and, if_neg (by decide), if_neg (by decide)]
theorem join_again : ∀ (ts : List Tk) (m a : Nat), GoodT ts → ts.length ≤ m → ∃ us, lexT m a (joinT ts) = .ok us ∧ sameT us ts
  | [], m, a, _, _ => ⟨[], lexT_end m a, trivial⟩
  | t :: r, m, a, hg, hm => by
    obtain ⟨m, rfl⟩ : ∃ k, m = k + 1 := ⟨m - 1, by simp at hm; omega⟩
    obtain ⟨l, z, ht⟩ := hg t (by simp)
    have hgr : GoodT r := fun u hu => hg u (by simp [hu])
    obtain ⟨rest, hb, hj⟩ : ∃ rest, Behind rest ∧ joinT (t :: r) = fullT t.k t.s ++ rest := by
      cases r with
      | nil => exact ⟨[], .inl rfl, by simp [joinT]⟩
      | cons u q => exact ⟨32 :: joinT (u :: q), .inr ⟨_, rfl⟩, rfl⟩
    have h := tokT_again hb ht
    obtain ⟨c, p, hcp⟩ : ∃ c p, fullT t.k t.s ++ rest = c :: p := by
      cases hx : fullT t.k t.s ++ rest with
      | nil => rw [hx] at h; cases h
      | cons c p => exact ⟨c, p, rfl⟩
    rw [hcp] at h
    have hnb : ((c.toNat : Int) == 32) = false := by
      rw [← Bool.not_eq_true]
      intro h32
      rw [show ((c.toNat : Int) == 32) = (c == 32) from byte_eq c 32 (by decide), beq_iff_eq] at h32
      subst h32
      rw [tokT_blank] at h
      cases h
    have hdrop : (c :: p).drop (fullT t.k t.s).length = rest := by rw [← hcp, List.drop_left' rfl]
    have hlex := lexT_tok m a c p t.k t.s t.n _ hnb h
    rw [hdrop] at hlex
    have hrest : ∃ us, lexT m (a + (fullT t.k t.s).length) rest = .ok us ∧ sameT us r := by
      cases r with
      | nil =>
        have : rest = [] := by
          have : fullT t.k t.s = fullT t.k t.s ++ rest := hj
          have := congrArg List.length this
          rw [List.length_append] at this
          exact List.eq_nil_of_length_eq_zero (by omega)
        rw [this]
        exact ⟨[], lexT_end _ _, trivial⟩
      | cons u q =>
        have : rest = 32 :: joinT (u :: q) := (List.append_cancel_left (show fullT t.k t.s ++ 32 :: joinT (u :: q) = fullT t.k t.s ++ rest from hj)).symm
        rw [this, lexT_blank _ _ _ _ rfl]
        exact join_again (u :: q) m _ hgr (by simpa using hm)
    obtain ⟨us, hu1, hu2⟩ := hrest
    refine ⟨⟨t.k, t.s, t.n, a⟩ :: us, ?_, rfl, rfl, rfl, hu2⟩
    rw [hj, hcp, hlex, hu1]
    rfl
theorem same_length : ∀ {us ts : List Tk}, sameT us ts → us.length = ts.length
  | [], [], _ => rfl
  | _ :: _, _ :: _, h => by rw [List.length_cons, List.length_cons, same_length h.2.2.2]
  | [], _ :: _, h => h.elim
  | _ :: _, [], h => h.elim
theorem same_at : ∀ {us ts : List Tk}, sameT us ts → ∀ i (h1 : i < us.length) (h2 : i < ts.length), us[i].k = ts[i].k ∧ us[i].s = ts[i].s ∧ us[i].n = ts[i].n
  | _ :: _, _ :: _, h, 0, _, _ => ⟨h.1, h.2.1, h.2.2.1⟩
  | _ :: _, _ :: _, h, i + 1, h1, h2 => same_at h.2.2.2 i (by simpa using h1) (by simpa using h2)
  | [], _, _, _, h1, _ => absurd h1 (Nat.not_lt_zero _)
  | _ :: _, [], h, _, _, _ => h.elim
theorem join_length : ∀ (l : List UInt8) (p : Nat) (ts : List Tk), p ≤ l.length → PlacesT l p ts → (joinT ts).length + p ≤ l.length + ts.length
  | l, p, [], hp, _ => by simp [joinT]; exact hp
  | l, p, [t], hp, h => by
    obtain ⟨h1, _, _, h4, _⟩ := h
    simp [joinT]; omega
  | l, p, t :: u :: r, hp, h => by
    obtain ⟨h1, _, _, h4, h5⟩ := h
    have ih := join_length l _ (u :: r) h4 h5
    show (fullT t.k t.s ++ 32 :: joinT (u :: r)).length + p ≤ _
    rw [List.length_append, List.length_cons, List.length_cons]
    omega
end Go.Proofs.YtidbmampjjgkpaaDoor
