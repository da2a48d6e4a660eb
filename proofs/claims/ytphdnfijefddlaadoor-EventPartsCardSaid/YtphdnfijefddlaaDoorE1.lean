/- Plain: events' names: their parts between dots, and what they are called for. No program. -/
import Derived.Test.YtphdnfijefddlaaDoorSP
namespace Go.Proofs.YtphdnfijefddlaaDoor
open Go.Lib
/-- The parts between dots. -/
def partsE : List UInt8 → List (List UInt8)
  | [] => [[]]
  | c :: r =>
    if c = 46 then [] :: partsE r
    else match partsE r with
      | [] => [[c]]
      | p :: ps => (c :: p) :: ps
def joinE : List (List UInt8) → List UInt8
  | [] => []
  | [p] => p
  | p :: q :: r => p ++ 46 :: joinE (q :: r)
/-- An event is called for by a name. -/
def matchE (c n : List UInt8) : Bool := if c = [42] then decide (n ≠ []) else if c = [] then false else c == n || (c ++ [46]).isPrefixOf n
theorem partsE_ne : ∀ l, partsE l ≠ []
  | [] => by simp [partsE]
  | c :: r => by
    rw [partsE]
    split
    · simp
    · split <;> simp
theorem joinE_cons (p : List UInt8) {ps : List (List UInt8)} (h : ps ≠ []) : joinE (p :: ps) = p ++ 46 :: joinE ps := by
  cases ps with
  | nil => exact absurd rfl h
  | cons q r => rfl
theorem joinE_parts : ∀ l, joinE (partsE l) = l
  | [] => rfl
  | c :: r => by
    have ih := joinE_parts r
    rw [partsE]
    split
    · rename_i h
      rw [joinE_cons _ (partsE_ne r), ih, h]
      rfl
    · cases hp : partsE r with
      | nil => exact absurd hp (partsE_ne r)
      | cons p ps =>
        rw [hp] at ih
        simp only
        cases ps with
        | nil =>
          show c :: p = c :: r
          rw [show p = r from ih]
        | cons q qs =>
          rw [← ih]
          rfl
/-- The first parts, and the others. -/
theorem joinE_take : ∀ (ps : List (List UInt8)) (n : Nat), 1 ≤ n → n < ps.length → joinE ps = joinE (ps.take n) ++ 46 :: joinE (ps.drop n)
  | [], n, _, h => by cases h
  | p :: ps, n + 1, _, h => by
    have hne : ps ≠ [] := by
      intro e
      subst e
      simp at h
    rw [joinE_cons _ hne, List.take_succ_cons, List.drop_succ_cons]
    cases n with
    | zero => rfl
    | succ n =>
      have h' : n + 1 < ps.length := by simpa using h
      have ht : ps.take (n + 1) ≠ [] := by
        intro e
        have := congrArg List.length e
        rw [List.length_take, List.length_nil] at this
        omega
      rw [joinE_cons _ ht, joinE_take ps (n + 1) (by omega) h', List.append_assoc]
      rfl
theorem head_of {c n : List UInt8} : (c ++ [46]).isPrefixOf n = true ↔ ∃ r, n = c ++ 46 :: r := by
  rw [List.isPrefixOf_iff_prefix]
  constructor
  · rintro ⟨r, h⟩
    exact ⟨r, by rw [← h, List.append_assoc]; rfl⟩
  · rintro ⟨r, rfl⟩
    exact ⟨r, by rw [List.append_assoc]; rfl⟩
theorem matchE_iff {c n : List UInt8} : matchE c n = true ↔ (c = [42] ∧ n ≠ []) ∨ (c ≠ [42] ∧ c ≠ [] ∧ (c = n ∨ ∃ r, n = c ++ 46 :: r)) := by
  unfold matchE
  by_cases h : c = [42]
  · rw [if_pos h, decide_eq_true_eq]
    constructor
    · exact fun k => .inl ⟨h, k⟩
    · rintro (⟨_, k⟩ | ⟨k, _⟩)
      · exact k
      · exact absurd h k
  · rw [if_neg h]
    by_cases h0 : c = []
    · rw [if_pos h0]
      constructor
      · exact fun k => by cases k
      · rintro (⟨k, _⟩ | ⟨_, k, _⟩)
        · exact absurd k h
        · exact absurd h0 k
    · rw [if_neg h0, Bool.or_eq_true, beq_iff_eq, head_of]
      constructor
      · exact fun k => .inr ⟨h, h0, k⟩
      · rintro (⟨k, _⟩ | ⟨_, _, k⟩)
        · exact absurd k h
        · exact k
/-- What begins a name, and ends at a dot of it, or is it all, calls for it. -/
theorem head_calls {head n : List UInt8} (h : n = head ∨ ∃ r, n = head ++ 46 :: r) : matchE head n = (decide (head ≠ []) && (decide (head ≠ [42]) || decide (n ≠ []))) := by
  rw [Bool.eq_iff_iff, matchE_iff]
  simp only [Bool.and_eq_true, Bool.or_eq_true, decide_eq_true_eq]
  constructor
  · rintro (⟨rfl, k⟩ | ⟨k1, k2, _⟩)
    · exact ⟨by simp, .inr k⟩
    · exact ⟨k2, .inl k1⟩
  · rintro ⟨k1, k2⟩
    by_cases e : head = [42]
    · refine .inl ⟨e, ?_⟩
      rcases k2 with k2 | k2
      · exact absurd e k2
      · exact k2
    · refine .inr ⟨e, k1, ?_⟩
      rcases h with h | h
      · exact .inl h.symm
      · exact .inr h
theorem head_parts (l : List UInt8) {n : Nat} (h1 : 1 ≤ n) : l = joinE ((partsE l).take n) ∨ ∃ r, l = joinE ((partsE l).take n) ++ 46 :: r := by
  rcases Nat.lt_or_ge n (partsE l).length with h | h
  · refine .inr ⟨joinE ((partsE l).drop n), ?_⟩
    rw [← joinE_take _ _ h1 h, joinE_parts]
  · refine .inl ?_
    rw [List.take_of_length_le h, joinE_parts]
/-- Two names ahead of which the same stands. -/
theorem calls_behind (d : List UInt8) (hd : 1 < d.length) {a b : List UInt8} (ha : ∀ x ∈ a, x ≠ 46) : matchE (d ++ b) (d ++ a) = (a == b) := by
  rw [Bool.eq_iff_iff, matchE_iff, beq_iff_eq]
  have h42 : d ++ b ≠ [42] := fun e => by
    have := congrArg List.length e
    rw [List.length_append, List.length_singleton] at this
    omega
  have h0 : d ++ b ≠ [] := fun e => by
    have := congrArg List.length e
    rw [List.length_append, List.length_nil] at this
    omega
  constructor
  · rintro (⟨h, _⟩ | ⟨_, _, h | ⟨r, h⟩⟩)
    · exact absurd h h42
    · exact (List.append_cancel_left h).symm
    · rw [List.append_assoc] at h
      have := List.append_cancel_left h
      exact absurd rfl (ha 46 (by rw [this]; simp))
  · rintro rfl
    exact .inr ⟨h42, h0, .inl rfl⟩
theorem parts_plain : ∀ {l : List UInt8}, (∀ x ∈ l, x ≠ 46) → partsE l = [l]
  | [], _ => rfl
  | c :: r, h => by rw [partsE, if_neg (h c (by simp)), parts_plain fun d hd => h d (by simp [hd])]
theorem parts_cut : ∀ (l r : List UInt8), (∀ x ∈ l, x ≠ 46) → partsE (l ++ 46 :: r) = l :: partsE r
  | [], r, _ => by rw [List.nil_append, partsE, if_pos rfl]
  | c :: l, r, h => by
    rw [List.cons_append, partsE, if_neg (h c (by simp)), parts_cut l r fun d hd => h d (by simp [hd])]
/-- The library's parts are these. -/
theorem parts_split : ∀ (k : Nat) (t : List UInt8), count t [46] = k → splitK [46] 0 k t = partsE t
  | 0, t, hk => by
    rcases index_one t 46 with ⟨h, hn⟩ | ⟨a, r, he, h, hn⟩
    · rw [parts_plain hn]
      simp [splitK]
    · rw [count_hit (i := a.length) (by simp) h] at hk
      omega
  | k + 1, t, hk => by
    rcases index_one t 46 with ⟨h, hn⟩ | ⟨a, r, he, h, hn⟩
    · rw [count_miss h] at hk; omega
    · have hd : t.drop (a.length + 1) = r := by rw [he, List.drop_append, List.drop_of_length_le (by omega)]; simp
      rw [count_hit (i := a.length) (by simp) h] at hk
      have hk' : count r [46] = k := by
        have : count (t.drop (a.length + [(46 : UInt8)].length)) [46] = k := by omega
        rw [← hd]; exact this
      have hne : (index t [46] == -1) = false := by rw [h, beq_eq_false_iff_ne]; omega
      rw [splitK, hne, if_neg (by decide), h]
      simp only [Int.toNat_natCast, Nat.add_zero, List.length_singleton]
      rw [hd, parts_split k r hk', he, parts_cut a r hn, List.take_left' rfl]
theorem pieces_parts (t : ByteArray) : (pieces t).map (·.data.toList) = partsE t.data.toList := by
  rw [← parts_split _ _ rfl]
  exact splitB_data _ _ _ _
end Go.Proofs.YtphdnfijefddlaaDoor

