/- Plain: tokens that stand further behind are read the same, but for the place. No program. -/
import Derived.Test.YtmdjlngdpjjfiaaGreatDoorY8
namespace Go.Proofs.YtmdjlngdpjjfiaaGreatDoor
/-- From place o on the same tokens stand, but for their places. -/
def SameAt (T ts : List Tk) (o : Nat) : Prop := ∀ i, (T[o + i]?).map key = (ts[i]?).map key
theorem same_set_at {pre us ts : List Tk} (h : us.map key = ts.map key) : SameAt (pre ++ us) ts pre.length := fun i => by
  rw [List.getElem?_append_right (by omega), show pre.length + i - pre.length = i by omega, ← List.getElem?_map, h, List.getElem?_map]
section
variable {T ts : List Tk} {o : Nat}
theorem same_cases (h : SameAt T ts o) (i : Nat) : (T[o + i]? = none ∧ ts[i]? = none) ∨ ∃ t t', T[o + i]? = some t ∧ ts[i]? = some t' ∧ key t = key t' := by
  have := h i
  cases h1 : T[o + i]? <;> cases h2 : ts[i]? <;> rw [h1, h2] at this
  · exact .inl ⟨rfl, rfl⟩
  · cases this
  · cases this
  · exact .inr ⟨_, _, rfl, rfl, by simpa using this⟩
theorem tkAt_same (h : SameAt T ts o) (i : Nat) (x : List UInt8) : tkAt T (o + i) x = tkAt ts i x := by
  unfold tkAt
  rcases same_cases h i with ⟨h1, h2⟩ | ⟨t, t', h1, h2, h3⟩
  · rw [h1, h2]
  · rw [h1, h2]
    exact wordB_key h3 x
theorem nameAt_same (h : SameAt T ts o) (i : Nat) : nameAt T (o + i) = nameAt ts i := by
  unfold nameAt
  rcases same_cases h i with ⟨h1, h2⟩ | ⟨t, t', h1, h2, h3⟩
  · rw [h1, h2]
  · rw [h1, h2]
    unfold key at h3
    simp only [Prod.mk.injEq] at h3
    simp [h3]
theorem valueAt_same (h : SameAt T ts o) (i : Nat) : valueAt T (o + i) = valueAt ts i := by
  unfold valueAt
  rcases same_cases h i with ⟨h1, h2⟩ | ⟨t, t', h1, h2, h3⟩
  · rw [h1, h2]
  · rw [h1, h2]
    simp only [wordB_key h3]
    unfold key at h3
    simp only [Prod.mk.injEq] at h3
    simp [h3]
theorem between_same (h : SameAt T ts o) (i : Nat) : between T (o + i) = between ts i := by
  unfold between
  rcases same_cases h i with ⟨h1, h2⟩ | ⟨t, t', h1, h2, h3⟩
  · rw [h1, h2]
  · rw [h1, h2]
    exact opFrom_key h3 _ _
/-- A reader further behind. -/
def shR (o : Nat) (r : Rd) : Rd := { r with at_ := o + r.at_ }
theorem ahead_same (h : SameAt T ts o) (r : Rd) : ahead T (shR o r) = (ahead ts r).map (shR o) := by
  unfold ahead shR
  simp only [tkAt_same h]
  repeat' split
  all_goals first | rfl | (simp only [Option.map_some, Option.map_none]; rw [Nat.add_assoc])
theorem aheads_same (h : SameAt T ts o) : ∀ (f : Nat) (r : Rd), aheads f T (shR o r) = shR o (aheads f ts r)
  | 0, _ => rfl
  | f + 1, r => by
    rw [aheads, aheads, ahead_same h]
    cases ahead ts r with
    | none => rfl
    | some r' => exact aheads_same h f r'
theorem rname_same (h : SameAt T ts o) (op : Int) (r : Rd) : rname op T (shR o r) = (rname op ts r).map (shR o) := by
  unfold rname
  show (match nameAt T (o + r.at_) with | some s => _ | none => none) = _
  rw [nameAt_same h]
  cases nameAt ts r.at_ with
  | none => rfl
  | some s => rfl
theorem rvalue_same (h : SameAt T ts o) (r : Rd) : rvalue T (shR o r) = (rvalue ts r).map (shR o) := by
  unfold rvalue
  show (match valueAt T (o + r.at_) with | some s => _ | none => none) = _
  rw [valueAt_same h]
  cases valueAt ts r.at_ with
  | none => rfl
  | some s => rfl
theorem takes_same (h : SameAt T ts o) (x : List UInt8) (r : Rd) : takes T x (shR o r) = (takes ts x r).map (shR o) := by
  unfold takes
  show (if tkAt T (o + r.at_) x then _ else none) = _
  rw [tkAt_same h]
  split <;> rfl
theorem atom_same (h : SameAt T ts o) (r : Rd) : atom T (shR o r) = (atom ts r).map (shR o) := by
  unfold atom
  rw [takes_same h]
  cases takes ts [105, 110] r with
  | some r1 =>
    simp only [Option.map_some]
    rw [takes_same h]
    cases takes ts [40] r1 with
    | none => rfl
    | some r2 =>
      simp only [Option.map_some]
      rw [rname_same h]
      cases rname 17 ts r2 with
      | none => rfl
      | some r3 =>
        simp only [Option.map_some]
        exact takes_same h _ _
  | none =>
    simp only [Option.map_none]
    rw [rname_same h]
    cases rname 16 ts r with
    | some r1 => rfl
    | none =>
      simp only [Option.map_none]
      exact rvalue_same h r
theorem finish_sh (least : Int) (r : Rd) : finish least (shR o r) = shR o (finish least r) := by
  have := finish_move least (o + r.at_) r
  unfold shR
  rw [this, (finish_at least r).1]
theorem more_same (h : SameAt T ts o) (r : Rd) : more T (shR o r) = ((more ts r).1, shR o (more ts r).2) := by
  unfold more
  have hb : between T (shR o r).at_ = between ts r.at_ := between_same h _
  rw [hb, finish_sh]
  have hw : (shR o (finish (leftI (between ts r.at_)) r)).wait = (finish (leftI (between ts r.at_)) r).wait := rfl
  rw [hw]
  split
  · rfl
  · split
    · rfl
    · rfl
theorem close_sh (r : Rd) : close (shR o r) = shR o (close r) := by
  rw [close_eq, close_eq, finish_sh]
  rfl
theorem closes_same (h : SameAt T ts o) : ∀ (f : Nat) (r : Rd), closes f T (shR o r) = shR o (closes f ts r)
  | 0, _ => rfl
  | f + 1, r => by
    rw [closes, closes]
    have ht : tkAt T (shR o r).at_ [41] = tkAt ts r.at_ [41] := tkAt_same h _ _
    have hw : (shR o r).within = r.within := rfl
    rw [ht, hw]
    split
    · rw [close_sh]
      exact closes_same h f _
    · rfl
theorem one_same (h : SameAt T ts o) (r : Rd) : one T (shR o r) = (one ts r).map (shR o) := by
  unfold one
  rw [aheads_same h, atom_same h]
  cases atom ts (aheads 128 ts r) with
  | none => rfl
  | some r1 =>
    simp only [Option.map_some]
    rw [closes_same h]
theorem whole_same (h : SameAt T ts o) : ∀ (f : Nat) (r : Rd), whole f T (shR o r) = (whole f ts r).map (shR o)
  | 0, _ => rfl
  | f + 1, r => by
    rw [whole, whole, one_same h]
    cases one ts r with
    | none => rfl
    | some r1 =>
      simp only [Option.map_some]
      rw [more_same h]
      rcases hm : more ts r1 with ⟨b, r2⟩
      simp only
      cases b
      · simp only
        rw [finish_sh]
        show (if (finish 1 r2).within = 0 then _ else none) = _
        split <;> rfl
      · exact whole_same h f r2
theorem parse_same (h : SameAt T ts o) (hl : T.length = o + ts.length) (a : Nat) : parseT T ((o + a : Nat) : Int) = match parseT ts (a : Int) with | .error x => .error x | .ok (ns, n) => .ok (ns, o + n) := by
  unfold parseT
  by_cases hc : (ts.length : Int) < (a : Int)
  · rw [if_pos (.inr (by omega)), if_pos (.inr hc)]
  · rw [if_neg (by omega), if_neg (by omega)]
    have e1 : ((o + a : Nat) : Int).toNat = o + a := rfl
    have e2 : ((a : Nat) : Int).toNat = a := rfl
    rw [e1, e2]
    have := whole_same h 128 ⟨a, [], [], [], 0⟩
    change whole 128 T ⟨o + a, [], [], [], 0⟩ = _ at this
    rw [this]
    cases whole 128 ts ⟨a, [], [], [], 0⟩ with
    | none => rfl
    | some r =>
      simp only [Option.map_some]
      show (if sizeT r.nodes ≠ 0 then _ else _) = _
      split <;> rfl
end
section
variable {ts : List Tk} {c : Tk} {rest : List Tk}
/-- From any place on: what stands behind a semicolon makes no difference. -/
theorem parse_ahead_at (hk : c.k = 5) (hs : c.s = [59]) (a : Nat) (ha : a ≤ ts.length) : parseT (ts ++ c :: rest) (a : Int) = parseT ts (a : Int) := by
  unfold parseT
  rw [if_neg (by rw [List.length_append, List.length_cons]; omega), if_neg (by omega)]
  have e2 : ((a : Nat) : Int).toNat = a := rfl
  rw [e2, whole_ahead hk hs 128 (good_start ts a ha)]
end
end Go.Proofs.YtmdjlngdpjjfiaaGreatDoor

