/- Plain: acts in a line's tokens; two rows, one behind the other with a semicolon between, are both. No program. -/
import Derived.Test.YtmdjlngdpjjfiaaGreatDoorAS
namespace Go.Proofs.YtmdjlngdpjjfiaaGreatDoor
/-- An act. -/
structure Ac where
  kind : Int
  cond : List Nd
  name : List UInt8
  x : List Nd
  n : Int
/-- Which act's word stands there (0: none). -/
def actAt (ts : List Tk) (a : Nat) : Int :=
  if tkAt ts a [115, 101, 116] then 1 else if tkAt ts a [114, 97, 105, 115, 101] then 2 else if tkAt ts a [115, 101, 110, 100] then 3 else if tkAt ts a [99, 97, 110, 99, 101, 108] then 4 else if tkAt ts a [108, 111, 103] then 5 else 0
/-- Whether a text may be a name, or an event. -/
def namedB (event : Bool) (s : List UInt8) : Bool := if event then (aloneK s == 1 || aloneK s == 2) && !meansB s else aloneK s == 1 && !meansB s
/-- The name, or the event, that stands there. -/
def eventAt (event : Bool) (ts : List Tk) (a : Nat) : Option (List UInt8) :=
  match ts[a]? with
  | some t => if (t.k == 1 || t.k == 2) && namedB event t.s then some t.s else none
  | none => none
/-- The number that stands there. -/
def numAt (ts : List Tk) (a : Nat) : Option Int :=
  match ts[a]? with
  | some t => if t.k == 3 then some t.n else none
  | none => none
/-- What stands behind an act's word. -/
def tailA (ts : List Tk) (cond : List Nd) (k : Int) (name : List UInt8) (a : Nat) : Except Int (Ac × Nat) :=
  if k = 1 ∨ k = 5 then
    match parseT ts (a : Int) with
    | .error x => .error x
    | .ok (ns, n) => .ok (⟨k, cond, name, ns, 0⟩, n)
  else if k = 3 then
    match numAt ts a with
    | none => .error 11
    | some n => if 1048576 < n then .error 10 else .ok (⟨k, cond, name, [], n⟩, a + 1)
  else .ok (⟨k, cond, name, [], 0⟩, a)
/-- An act behind its condition. -/
def doA (ts : List Tk) (cond : List Nd) (a : Nat) : Except Int (Ac × Nat) :=
  if actAt ts a = 0 then .error 11
  else if actAt ts a = 5 then tailA ts cond 5 [] (a + 1)
  else match eventAt (decide (1 < actAt ts a)) ts (a + 1) with
    | none => .error 11
    | some name => tailA ts cond (actAt ts a) name (a + 2)
def oneA (ts : List Tk) (a : Nat) : Except Int (Ac × Nat) :=
  if tkAt ts a [105, 102] then
    match parseT ts ((a + 1 : Nat) : Int) with
    | .error x => .error x
    | .ok (ns, n) => if tkAt ts n [58] then doA ts ns (n + 1) else .error 11
  else doA ts [] a
/-- At most so many acts. -/
def takeA : Nat → List Tk → Nat → Except Int (List Ac × Nat)
  | 0, _, _ => .error 13
  | f + 1, ts, a =>
    match oneA ts a with
    | .error x => .error x
    | .ok (c, n) =>
      if tkAt ts n [59] then
        match takeA f ts (n + 1) with
        | .error x => .error x
        | .ok (cs, q) => .ok (c :: cs, q)
      else .ok ([c], n)
def takeT (ts : List Tk) (a : Int) : Except Int (List Ac × Nat) :=
  if a < 0 ∨ (ts.length : Int) < a then .error 11 else takeA 8 ts a.toNat
/-! ### Further behind -/
def mv (o : Nat) {α : Type} : Except Int (α × Nat) → Except Int (α × Nat)
  | .error x => .error x
  | .ok (c, n) => .ok (c, o + n)
section
variable {T ts : List Tk} {o : Nat}
theorem actAt_same (h : SameAt T ts o) (i : Nat) : actAt T (o + i) = actAt ts i := by
  unfold actAt
  simp only [tkAt_same h]
theorem eventAt_same (h : SameAt T ts o) (e : Bool) (i : Nat) : eventAt e T (o + i) = eventAt e ts i := by
  unfold eventAt
  rcases same_cases h i with ⟨h1, h2⟩ | ⟨t, t', h1, h2, h3⟩
  · rw [h1, h2]
  · rw [h1, h2]
    unfold key at h3
    simp only [Prod.mk.injEq] at h3
    simp [h3]
theorem numAt_same (h : SameAt T ts o) (i : Nat) : numAt T (o + i) = numAt ts i := by
  unfold numAt
  rcases same_cases h i with ⟨h1, h2⟩ | ⟨t, t', h1, h2, h3⟩
  · rw [h1, h2]
  · rw [h1, h2]
    unfold key at h3
    simp only [Prod.mk.injEq] at h3
    simp [h3]
theorem tailA_same (h : SameAt T ts o) (hl : T.length = o + ts.length) (cond : List Nd) (k : Int) (name : List UInt8) (a : Nat) : tailA T cond k name (o + a) = mv o (tailA ts cond k name a) := by
  unfold tailA
  rw [parse_same h hl, numAt_same h]
  split
  · cases parseT ts (a : Int) with
    | error x => rfl
    | ok p => rfl
  · split
    · cases numAt ts a with
      | none => rfl
      | some n =>
        simp only
        split <;> rfl
    · rfl
theorem doA_same (h : SameAt T ts o) (hl : T.length = o + ts.length) (cond : List Nd) (a : Nat) : doA T cond (o + a) = mv o (doA ts cond a) := by
  unfold doA
  rw [actAt_same h, Nat.add_assoc, eventAt_same h, tailA_same h hl, Nat.add_assoc]
  split
  · rfl
  · split
    · rfl
    · cases eventAt (decide (1 < actAt ts a)) ts (a + 1) with
      | none => rfl
      | some name =>
        simp only
        exact tailA_same h hl _ _ _ _
theorem oneA_same (h : SameAt T ts o) (hl : T.length = o + ts.length) (a : Nat) : oneA T (o + a) = mv o (oneA ts a) := by
  unfold oneA
  rw [tkAt_same h, Nat.add_assoc, parse_same h hl, doA_same h hl]
  split
  · cases parseT ts ((a + 1 : Nat) : Int) with
    | error x => rfl
    | ok p =>
      obtain ⟨ns, n⟩ := p
      simp only
      rw [tkAt_same h]
      split
      · rw [Nat.add_assoc, doA_same h hl]
      · rfl
  · rfl
theorem takeA_same (h : SameAt T ts o) (hl : T.length = o + ts.length) : ∀ (f a : Nat), takeA f T (o + a) = mv o (takeA f ts a)
  | 0, _ => rfl
  | f + 1, a => by
    rw [takeA, takeA, oneA_same h hl]
    cases oneA ts a with
    | error x => rfl
    | ok p =>
      obtain ⟨c, n⟩ := p
      simp only [mv]
      rw [tkAt_same h]
      split
      · rw [Nat.add_assoc, takeA_same h hl f (n + 1)]
        cases takeA f ts (n + 1) with
        | error x => rfl
        | ok q => rfl
      · rfl
end
/-! ### Ahead of a semicolon -/
section
variable {ts : List Tk} {c : Tk} {rest : List Tk}
theorem actAt_ahead (hs : c.s = [59]) (a : Nat) (h : a ≤ ts.length) : actAt (ts ++ c :: rest) a = actAt ts a := by
  unfold actAt
  rw [tkAt_ahead hs a h _ (by decide), tkAt_ahead hs a h _ (by decide), tkAt_ahead hs a h _ (by decide), tkAt_ahead hs a h _ (by decide), tkAt_ahead hs a h _ (by decide)]
theorem actAt_lt {ts : List Tk} {a : Nat} (h : ¬ actAt ts a = 0) : a < ts.length := by
  unfold actAt at h
  repeat' split at h
  all_goals first | exact tkAt_lt ‹_› | exact absurd rfl h
theorem eventAt_ahead (hk : c.k = 5) (e : Bool) (a : Nat) (h : a ≤ ts.length) : eventAt e (ts ++ c :: rest) a = eventAt e ts a := by
  unfold eventAt
  rcases look_ahead (c := c) (rest := rest) a h with ⟨h1, _⟩ | ⟨h1, h2⟩
  · rw [h1]
  · rw [h1, h2]
    simp [hk]
theorem eventAt_lt {ts : List Tk} {e : Bool} {a : Nat} {s : List UInt8} (h : eventAt e ts a = some s) : a < ts.length := by
  unfold eventAt at h
  rcases Nat.lt_or_ge a ts.length with h1 | h1
  · exact h1
  · rw [List.getElem?_eq_none h1] at h; cases h
theorem numAt_ahead (hk : c.k = 5) (a : Nat) (h : a ≤ ts.length) : numAt (ts ++ c :: rest) a = numAt ts a := by
  unfold numAt
  rcases look_ahead (c := c) (rest := rest) a h with ⟨h1, _⟩ | ⟨h1, h2⟩
  · rw [h1]
  · rw [h1, h2]
    simp [hk]
theorem numAt_lt {ts : List Tk} {a : Nat} {n : Int} (h : numAt ts a = some n) : a < ts.length := by
  unfold numAt at h
  rcases Nat.lt_or_ge a ts.length with h1 | h1
  · exact h1
  · rw [List.getElem?_eq_none h1] at h; cases h
theorem tailA_ahead (hk : c.k = 5) (hs : c.s = [59]) (cond : List Nd) (k : Int) (name : List UInt8) (a : Nat) (h : a ≤ ts.length) : tailA (ts ++ c :: rest) cond k name a = tailA ts cond k name a := by
  unfold tailA
  rw [parse_ahead_at hk hs a h, numAt_ahead hk a h]
theorem tailA_le {ts : List Tk} {cond : List Nd} {k : Int} {name : List UInt8} {a : Nat} (h : a ≤ ts.length) {x : Ac × Nat} (e : tailA ts cond k name a = .ok x) : x.2 ≤ ts.length := by
  unfold tailA at e
  split at e
  · split at e
    · cases e
    · rename_i hp
      cases e
      exact (parseT_at hp).1
  · split at e
    · split at e
      · cases e
      · rename_i hn
        have := numAt_lt hn
        split at e
        · cases e
        · cases e
          exact this
    · cases e
      exact h
theorem doA_ahead (hk : c.k = 5) (hs : c.s = [59]) (cond : List Nd) (a : Nat) (h : a ≤ ts.length) : doA (ts ++ c :: rest) cond a = doA ts cond a := by
  unfold doA
  rw [actAt_ahead hs a h]
  by_cases h0 : actAt ts a = 0
  · rw [if_pos h0, if_pos h0]
  · have ha := actAt_lt h0
    rw [if_neg h0, if_neg h0, tailA_ahead hk hs _ _ _ _ (by omega), eventAt_ahead hk _ _ (by omega)]
    split
    · rfl
    · cases he : eventAt (decide (1 < actAt ts a)) ts (a + 1) with
      | none => rfl
      | some name =>
        have := eventAt_lt he
        simp only
        exact tailA_ahead hk hs _ _ _ _ (by omega)
theorem doA_le {ts : List Tk} {cond : List Nd} {a : Nat} {x : Ac × Nat} (e : doA ts cond a = .ok x) : x.2 ≤ ts.length := by
  unfold doA at e
  split at e
  · cases e
  · rename_i h0
    have ha := actAt_lt h0
    split at e
    · exact tailA_le (by omega) e
    · split at e
      · cases e
      · rename_i he
        have := eventAt_lt he
        exact tailA_le (by omega) e
theorem oneA_ahead (hk : c.k = 5) (hs : c.s = [59]) (a : Nat) (h : a ≤ ts.length) : oneA (ts ++ c :: rest) a = oneA ts a := by
  unfold oneA
  rw [tkAt_ahead hs a h _ (by decide)]
  by_cases h0 : tkAt ts a [105, 102] = true
  · have ha := tkAt_lt h0
    rw [if_pos h0, if_pos h0, parse_ahead_at hk hs (a + 1) (by omega)]
    cases hp : parseT ts ((a + 1 : Nat) : Int) with
    | error x => rfl
    | ok p =>
      obtain ⟨ns, n⟩ := p
      have hn := (parseT_at hp).1
      simp only
      rw [tkAt_ahead hs n hn _ (by decide)]
      by_cases h1 : tkAt ts n [58] = true
      · have := tkAt_lt h1
        rw [if_pos h1, if_pos h1, doA_ahead hk hs _ _ (by omega)]
      · rw [if_neg h1, if_neg h1]
  · rw [if_neg h0, if_neg h0, doA_ahead hk hs _ _ h]
theorem oneA_le {ts : List Tk} {a : Nat} {x : Ac × Nat} (e : oneA ts a = .ok x) : x.2 ≤ ts.length := by
  unfold oneA at e
  split at e
  · split at e
    · cases e
    · split at e
      · exact doA_le e
      · cases e
  · exact doA_le e
theorem tkAt_before (a : Nat) (h : a < ts.length) (x : List UInt8) : tkAt (ts ++ c :: rest) a x = tkAt ts a x := by
  unfold tkAt
  rw [List.getElem?_append_left h]
/-- Acts up to the end, and a semicolon, and what stands behind it. -/
theorem takeA_ahead (hk : c.k = 5) (hs : c.s = [59]) : ∀ (f a : Nat) (cs : List Ac), a ≤ ts.length → takeA f ts a = .ok (cs, ts.length) → ∀ g, takeA (cs.length + g) (ts ++ c :: rest) a = match takeA g (ts ++ c :: rest) (ts.length + 1) with | .error x => .error x | .ok (ds, q) => .ok (cs ++ ds, q)
  | 0, _, _, _, h, _ => by cases h
  | f + 1, a, cs, ha, h, g => by
    rw [takeA] at h
    split at h
    · cases h
    · rename_i d n h1
      have hn : n ≤ ts.length := oneA_le h1
      split at h
      · rename_i ht
        have hlt := tkAt_lt ht
        split at h
        · cases h
        · rename_i ds q h2
          cases h
          have ih := takeA_ahead hk hs f (n + 1) ds (by omega) h2 g
          rw [List.length_cons, show ds.length + 1 + g = (ds.length + g) + 1 by omega, takeA, oneA_ahead hk hs a ha, h1]
          simp only
          rw [tkAt_before n hlt, ht, if_pos rfl, ih]
          cases takeA g (ts ++ c :: rest) (ts.length + 1) with
          | error x => rfl
          | ok p => rfl
      · cases h
        rw [show [d].length + g = g + 1 by simp; omega, takeA, oneA_ahead hk hs a ha, h1]
        simp only
        have ht : tkAt (ts ++ c :: rest) ts.length [59] = true := by
          unfold tkAt
          rw [List.getElem?_append_right (Nat.le_refl _), Nat.sub_self]
          simp [wordB, hk, hs]
        rw [ht, if_pos rfl]
        cases takeA g (ts ++ c :: rest) (ts.length + 1) with
        | error x => rfl
        | ok p => rfl
end
/-- So many acts want so much room. -/
theorem takeA_room {ts : List Tk} : ∀ (f a : Nat) (cs : List Ac) (q : Nat), takeA f ts a = .ok (cs, q) → cs.length ≤ f ∧ ∀ g, takeA g ts a = if cs.length ≤ g then .ok (cs, q) else .error 13
  | 0, _, _, _, h => by cases h
  | f + 1, a, cs, q, h => by
    rw [takeA] at h
    split at h
    · cases h
    · rename_i d n h1
      split at h
      · rename_i ht
        split at h
        · cases h
        · rename_i ds q' h2
          cases h
          obtain ⟨hle, ih⟩ := takeA_room f (n + 1) ds q h2
          refine ⟨by rw [List.length_cons]; omega, fun g => ?_⟩
          cases g with
          | zero => rw [takeA, if_neg (by rw [List.length_cons]; omega)]
          | succ g =>
            rw [takeA, h1]
            simp only
            rw [if_pos ht, ih g, List.length_cons]
            by_cases hg : ds.length ≤ g
            · rw [if_pos hg, if_pos (by omega)]
            · rw [if_neg hg, if_neg (by omega)]
      · rename_i ht
        cases h
        refine ⟨by simp, fun g => ?_⟩
        cases g with
        | zero => rw [takeA, if_neg (by simp)]
        | succ g =>
          rw [takeA, h1]
          simp only
          rw [if_neg ht, if_pos (by simp)]
/-- Two rows. -/
theorem take_rows {ts ms us : List Tk} {c : Tk} {cs ds : List Ac} {q : Nat} (hk : c.k = 5) (hs : c.s = [59]) (hu : us.map key = ms.map key) (h1 : takeT ts 0 = .ok (cs, ts.length)) (h2 : takeT ms 0 = .ok (ds, q)) :
    takeT (ts ++ c :: us) 0 = if cs.length + ds.length ≤ 8 then .ok (cs ++ ds, ts.length + 1 + q) else .error 13 := by
  unfold takeT at h1 h2 ⊢
  rw [if_neg (by omega)] at h1 h2 ⊢
  rw [show Int.toNat 0 = 0 from rfl] at h1 h2 ⊢
  obtain ⟨hle, _⟩ := takeA_room _ _ _ _ h1
  obtain ⟨_, hroom⟩ := takeA_room _ _ _ _ h2
  have e := takeA_ahead (rest := us) hk hs 8 0 cs (Nat.zero_le _) h1 (8 - cs.length)
  rw [show cs.length + (8 - cs.length) = 8 by omega] at e
  have hS : SameAt (ts ++ c :: us) ms (ts.length + 1) := by
    have := same_set_at (pre := ts ++ [c]) hu
    rw [List.length_append, List.length_singleton, List.append_assoc, List.singleton_append] at this
    exact this
  have hl : (ts ++ c :: us).length = ts.length + 1 + ms.length := by
    have := congrArg List.length hu
    rw [List.length_map, List.length_map] at this
    rw [List.length_append, List.length_cons]
    omega
  have e2 := takeA_same hS hl (8 - cs.length) 0
  rw [Nat.add_zero, hroom (8 - cs.length)] at e2
  rw [e, e2]
  by_cases hg : ds.length ≤ 8 - cs.length
  · rw [if_pos hg, if_pos (by omega)]
    rfl
  · rw [if_neg hg, if_neg (by omega)]
    rfl
/-- The tokens of two lines, one behind the other with a semicolon between. -/
theorem lex_rows {l more : List UInt8} {ts ms both : List Tk} (h1 : lexT 120 0 l = .ok ts) (h2 : lexT 120 0 more = .ok ms) (hb : lexT 120 0 (l ++ 32 :: 59 :: 32 :: more) = .ok both) : ∃ a us, both = ts ++ (⟨5, [59], 0, a⟩ : Tk) :: us ∧ us.map key = ms.map key := by
  rw [lexT_ahead (32 :: 59 :: 32 :: more) (.inr ⟨_, rfl⟩) 120 0 l ts h1, lexT_blank _ _ _ _ (by decide)] at hb
  have hm120 : 120 - ts.length ≤ 120 := by omega
  generalize 120 - ts.length = m at hb hm120
  cases m with
  | zero =>
    rw [lexT_many _ _ _ (by decide)] at hb
    cases hb
  | succ m =>
    have ht : tokT (59 :: 32 :: more) = .ok (5, [59], 0, 1) := by rfl
    rw [lexT_tok m _ 59 (32 :: more) 5 [59] 0 1 (by decide) ht] at hb
    rw [show (59 :: 32 :: more).drop 1 = 32 :: more from rfl, lexT_blank _ _ _ _ (by decide)] at hb
    generalize hz : lexT m (0 + l.length + 1 + 1 + 1) more = z at hb
    cases z with
    | error z => cases hb
    | ok us =>
      cases hb
      refine ⟨_, us, rfl, ?_⟩
      have hr := lexT_room _ _ _ _ hz (120 - m)
      rw [show m + (120 - m) = 120 by omega] at hr
      obtain ⟨vs, h3, h4⟩ := lexT_key (b := 0 + l.length + 1 + 1 + 1) h2
      rw [Nat.zero_add (0 + l.length + 1 + 1 + 1), hr] at h3
      cases h3
      exact h4
end Go.Proofs.YtmdjlngdpjjfiaaGreatDoor

