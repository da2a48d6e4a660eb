/- Plain: what is reckoned of a tree's nodes: in their order, and from the whole down: the same, and the same first error. No program. -/
import Derived.Test.YtkjgfcbanlcmgaaGreatDoorXG
namespace Go.Proofs.YtkjgfcbanlcmgaaGreatDoor
section
variable (own : Nd → Int → Int → Except Int Int)
def leafB (n : Nd) : Prop := n.op = 0 ∨ n.op = 16 ∨ n.op = 17
/-- In their order. -/
def linK : List Int → List Nd → Except (Int × Nat) (List Int)
  | ks, [] => .ok ks
  | ks, n :: r =>
    match own n (ks.getD n.l.toNat 0) (ks.getD n.r.toNat 0) with
    | .error x => .error (x, ks.length)
    | .ok k => linK (ks ++ [k]) r
/-- From node i down. -/
def downK (ns : List Nd) : Nat → Nat → Except (Int × Nat) Int
  | 0, _ => .error (0, 0)
  | f + 1, i =>
    match ns[i]? with
    | none => .error (0, 0)
    | some n =>
      if n.op = 0 ∨ n.op = 16 ∨ n.op = 17 then (match own n 0 0 with | .error x => .error (x, i) | .ok k => .ok k) else
      match downK ns f n.l.toNat with
      | .error e => .error e
      | .ok a =>
        if n.op ≤ 2 then (match own n a 0 with | .error x => .error (x, i) | .ok k => .ok k) else
        match downK ns f n.r.toNat with
        | .error e => .error e
        | .ok b => (match own n a b with | .error x => .error (x, i) | .ok k => .ok k)
/-- The first j nodes come to ks. -/
structure PassK (ns : List Nd) (ks : List Int) (j : Nat) : Prop where
  len : ks.length = j
  at_ : ∀ i n (h : i < ks.length), ns[i]? = some n → own n (ks.getD n.l.toNat 0) (ks.getD n.r.toNat 0) = .ok ks[i]
variable {own}
theorem own_snoc (hleaf : ∀ n a b, (n.op = 0 ∨ n.op = 16 ∨ n.op = 17) → own n a b = own n 0 0) (hone : ∀ n a b, (n.op = 1 ∨ n.op = 2) → own n a b = own n a 0) {j : Nat} {n : Nd} (ks : List Int) (k : Int) (ha : Ahead j n) (hj : j ≤ ks.length) : own n ((ks ++ [k]).getD n.l.toNat 0) ((ks ++ [k]).getD n.r.toNat 0) = own n (ks.getD n.l.toNat 0) (ks.getD n.r.toNat 0) := by
  have e : ∀ a : Nat, a < j → (ks ++ [k]).getD a 0 = ks.getD a 0 := fun a h => by
    rw [List.getD_eq_getElem?_getD, List.getD_eq_getElem?_getD, List.getElem?_append_left (by omega)]
  rcases ha.range with h | h | h
  · rw [hleaf n _ _ (.inl h), hleaf n (ks.getD _ _) _ (.inl h)]
  · obtain ⟨a, hl, hlt⟩ := ha.l h.1 h.2
    by_cases h3 : 3 ≤ n.op
    · obtain ⟨b, hr, hrt⟩ := ha.r h3 h.2
      rw [hl, hr, show ((a : Int)).toNat = a from rfl, show ((b : Int)).toNat = b from rfl, e a hlt, e b hrt]
    · have h12 : n.op = 1 ∨ n.op = 2 := by omega
      rw [hone n _ _ h12, hone n (ks.getD _ _) _ h12, hl, show ((a : Int)).toNat = a from rfl, e a hlt]
  · rw [hleaf n _ _ (.inr h), hleaf n (ks.getD _ _) _ (.inr h)]
theorem linK_spec (hleaf : ∀ n a b, (n.op = 0 ∨ n.op = 16 ∨ n.op = 17) → own n a b = own n 0 0) (hone : ∀ n a b, (n.op = 1 ∨ n.op = 2) → own n a b = own n a 0) {ns : List Nd} (hah : ∀ j (h : j < ns.length), Ahead j ns[j]) : ∀ (r pre : List Nd) (ks : List Int), ns = pre ++ r → PassK own ns ks pre.length →
    (∃ ks', linK own ks r = .ok ks' ∧ PassK own ns ks' ns.length) ∨ (∃ x j n ks', linK own ks r = .error (x, j) ∧ PassK own ns ks' j ∧ ns[j]? = some n ∧ own n (ks'.getD n.l.toNat 0) (ks'.getD n.r.toNat 0) = .error x)
  | [], pre, ks, hns, hp => by
    rw [List.append_nil] at hns
    subst hns
    exact .inl ⟨ks, rfl, hp⟩
  | n :: r, pre, ks, hns, hp => by
    have hn : ns[pre.length]? = some n := by rw [hns]; simp
    rw [linK]
    cases ho : own n (ks.getD n.l.toNat 0) (ks.getD n.r.toNat 0) with
    | error x =>
      simp only
      exact .inr ⟨x, ks.length, n, ks, rfl, by rw [hp.len]; exact hp, by rw [hp.len]; exact hn, ho⟩
    | ok k =>
      simp only
      refine linK_spec hleaf hone hah r (pre ++ [n]) (ks ++ [k]) (by rw [hns]; simp) ⟨by simp [hp.len], fun i m hi hm => ?_⟩
      have him : i < ns.length := (List.getElem?_eq_some_iff.1 hm).1
      have hmi : ns[i] = m := (List.getElem?_eq_some_iff.1 hm).2
      have ham : Ahead i m := hmi ▸ hah i him
      rw [List.length_append, List.length_singleton] at hi
      rw [own_snoc hleaf hone ks k ham (by omega)]
      rcases Nat.lt_or_ge i ks.length with hlt | hge
      · rw [List.getElem_append_left hlt]
        exact hp.at_ i m hlt hm
      · obtain rfl : i = ks.length := by omega
        rw [hp.len, hn] at hm
        cases hm
        rw [ho]
        simp
theorem down_ok (hleaf : ∀ n a b, (n.op = 0 ∨ n.op = 16 ∨ n.op = 17) → own n a b = own n 0 0) (hone : ∀ n a b, (n.op = 1 ∨ n.op = 2) → own n a b = own n a 0) {ns : List Nd} {ks : List Int} {j : Nat} (hp : PassK own ns ks j) {lo i : Nat} (t : Tree ns lo i) : ∀ f, i < f → (h : i < ks.length) → downK own ns f i = .ok ks[i] := by
  induction t with
  | @leaf i n hn hc =>
    intro f hf h
    obtain ⟨f, rfl⟩ : ∃ g, f = g + 1 := ⟨f - 1, by omega⟩
    have := hp.at_ i n h hn
    rw [hleaf n _ _ hc] at this
    rw [downK, hn]
    simp only
    rw [if_pos hc, this]
  | @one lo a n hn hc hl _ ih =>
    intro f hf h
    obtain ⟨f, rfl⟩ : ∃ g, f = g + 1 := ⟨f - 1, by omega⟩
    have := hp.at_ _ n h hn
    have h1 := ih f (by omega) (by omega)
    rw [hone n _ _ hc, hl, show ((a : Int)).toNat = a from rfl, List.getD_eq_getElem?_getD, List.getElem?_eq_getElem (by omega), Option.getD_some] at this
    rw [downK, hn]
    simp only
    rw [if_neg (by omega), hl, show ((a : Int)).toNat = a from rfl, h1]
    simp only
    rw [if_pos (by omega), this]
  | @two lo a b n hn hc hl hr ta tb ih1 ih2 =>
    intro f hf h
    obtain ⟨f, rfl⟩ : ∃ g, f = g + 1 := ⟨f - 1, by omega⟩
    have hab := tb.le
    have := hp.at_ _ n h hn
    have h1 := ih1 f (by omega) (by omega)
    have h2 := ih2 f (by omega) (by omega)
    rw [hl, hr, show ((a : Int)).toNat = a from rfl, show ((b : Int)).toNat = b from rfl, List.getD_eq_getElem?_getD, List.getD_eq_getElem?_getD, List.getElem?_eq_getElem (by omega), List.getElem?_eq_getElem (by omega), Option.getD_some, Option.getD_some] at this
    rw [downK, hn]
    simp only
    rw [if_neg (by omega), hl, show ((a : Int)).toNat = a from rfl, h1]
    simp only
    rw [if_neg (by omega), hr, show ((b : Int)).toNat = b from rfl, h2]
    simp only
    rw [this]
theorem down_err (hleaf : ∀ n a b, (n.op = 0 ∨ n.op = 16 ∨ n.op = 17) → own n a b = own n 0 0) (hone : ∀ n a b, (n.op = 1 ∨ n.op = 2) → own n a b = own n a 0) {ns : List Nd} {ks : List Int} {j : Nat} {x : Int} {m : Nd} (hp : PassK own ns ks j) (hm : ns[j]? = some m) (he : own m (ks.getD m.l.toNat 0) (ks.getD m.r.toNat 0) = .error x) {lo i : Nat} (t : Tree ns lo i) :
    ∀ f, i < f → lo ≤ j → j ≤ i → downK own ns f i = .error (x, j) := by
  have hk := hp.len
  induction t with
  | @leaf i n hn hc =>
    intro f hf h1 h2
    obtain rfl : j = i := by omega
    obtain ⟨f, rfl⟩ : ∃ g, f = g + 1 := ⟨f - 1, by omega⟩
    rw [hn] at hm
    cases hm
    rw [hleaf _ _ _ hc] at he
    rw [downK, hn]
    simp only
    rw [if_pos hc, he]
  | @one lo a n hn hc hl ta ih =>
    intro f hf h1 h2
    obtain ⟨f, rfl⟩ : ∃ g, f = g + 1 := ⟨f - 1, by omega⟩
    rw [downK, hn]
    simp only
    rw [if_neg (by omega), hl, show ((a : Int)).toNat = a from rfl]
    rcases Nat.lt_or_ge a j with hlt | hge
    · obtain rfl : j = a + 1 := by omega
      rw [hn] at hm
      cases hm
      rw [down_ok hleaf hone hp ta f (by omega) (by omega)]
      simp only
      rw [hone _ _ _ hc, hl, show ((a : Int)).toNat = a from rfl, List.getD_eq_getElem?_getD, List.getElem?_eq_getElem (by omega), Option.getD_some] at he
      rw [if_pos (by omega), he]
    · rw [ih f (by omega) h1 hge]
  | @two lo a b n hn hc hl hr ta tb ih1 ih2 =>
    intro f hf h1 h2
    obtain ⟨f, rfl⟩ : ∃ g, f = g + 1 := ⟨f - 1, by omega⟩
    have hab := tb.le
    rw [downK, hn]
    simp only
    rw [if_neg (by omega), hl, show ((a : Int)).toNat = a from rfl]
    rcases Nat.lt_or_ge a j with hlt | hge
    · rw [down_ok hleaf hone hp ta f (by omega) (by omega)]
      simp only
      rw [if_neg (by omega), hr, show ((b : Int)).toNat = b from rfl]
      rcases Nat.lt_or_ge b j with hlt2 | hge2
      · obtain rfl : j = b + 1 := by omega
        rw [hn] at hm
        cases hm
        rw [down_ok hleaf hone hp tb f (by omega) (by omega)]
        simp only
        rw [hl, hr, show ((a : Int)).toNat = a from rfl, show ((b : Int)).toNat = b from rfl, List.getD_eq_getElem?_getD, List.getD_eq_getElem?_getD, List.getElem?_eq_getElem (by omega), List.getElem?_eq_getElem (by omega), Option.getD_some, Option.getD_some] at he
        rw [he]
      · rw [ih2 f (by omega) (by omega) hge2]
    · rw [ih1 f (by omega) h1 hge]
/-- Both ways come to the same. -/
theorem down_lin (hleaf : ∀ n a b, (n.op = 0 ∨ n.op = 16 ∨ n.op = 17) → own n a b = own n 0 0) (hone : ∀ n a b, (n.op = 1 ∨ n.op = 2) → own n a b = own n a 0) {ns : List Nd} (h : rightT ns = true) : downK own ns ns.length (ns.length - 1) = match linK own [] ns with | .error e => .error e | .ok ks => .ok (ks.getD (ns.length - 1) 0) := by
  obtain ⟨h0, t⟩ := tree_of_right h
  rcases linK_spec hleaf hone (right_ahead h) ns [] [] rfl ⟨rfl, fun i n hi => absurd hi (Nat.not_lt_zero _)⟩ with ⟨ks, he, hp⟩ | ⟨x, j, n, ks, he, hp, hn, hx⟩
  · rw [he]
    have hl := hp.len
    rw [down_ok hleaf hone hp t _ (by omega) (by omega)]
    simp only
    rw [List.getD_eq_getElem?_getD, List.getElem?_eq_getElem (by omega), Option.getD_some]
  · rw [he]
    have hj := (List.getElem?_eq_some_iff.1 hn).1
    rw [down_err hleaf hone hp hn hx t _ (by omega) (Nat.zero_le _) (by omega)]
end
end Go.Proofs.YtkjgfcbanlcmgaaGreatDoor

