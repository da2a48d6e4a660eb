/- Several texts of this proof, joined: CM, CI, CJ, CN, MP, MC. -/
import Derived.Test.YtekfnnfphhoeoaaGreatDoorP1
/- Plain: a chart, line by line. No program. -/
namespace Go.Proofs.YtekfnnfphhoeoaaGreatDoor
/-! ### Charts -/
structure Vr where
  name : List UInt8
  vk : Int
  vn : Int
  vs : List UInt8
structure Tr where
  event : List UInt8
  cond : List Nd
  goes : List (List UInt8)
  inner : Bool
  thn : List Ac
structure St where
  name : List UInt8
  kind : Int
  parent : Int
  start : List UInt8
  enter : List (List Ac)
  exit : List (List Ac)
  trans : List Tr
structure Ch where
  name : List UInt8
  vars : List Vr
  states : List St
def ch0 : Ch := ⟨[], [], []⟩
def st0 : St := ⟨[], 0, 0, [], [], [], []⟩
/-- The lines of a text. -/
def linesT : List UInt8 → List (List UInt8)
  | [] => [[]]
  | c :: r =>
    if c = 10 then [] :: linesT r
    else match linesT r with
      | [] => [[c]]
      | l :: ls => (c :: l) :: ls
/-- Does a line say nothing? -/
def emptyT : List UInt8 → Bool
  | [] => true
  | c :: r => if c = 35 then true else if c = 32 then emptyT r else false
/-- How deep a state is (f: so many states at most lie around it). -/
def deepT (ss : List St) : Nat → Int → Nat
  | 0, _ => 0
  | f + 1, i => if i ≤ 0 then 0 else deepT ss f (ss.getD i.toNat st0).parent + 1
def manyT (ss : List St) : Nat := (ss.map fun s => s.trans.length).sum
def withT (c : Ch) (i : Int) (s : St) : Ch := { c with states := c.states.set i.toNat s }
def trOf (n : Ln) : Tr := ⟨n.event, n.cond, n.goes, n.inner, n.thn⟩
/-- A line that stands in a state. -/
def innerT (c : Ch) (o : Int) (n : Ln) : Except Int (Ch × Int) :=
  if o = 0 then .error 30
  else
    let s := c.states.getD o.toNat st0
    if n.kind = 8 then if s.enter.length = 8 then .error 13 else .ok (withT c o { s with enter := s.enter ++ [n.acts] }, o)
    else if n.kind = 9 then if s.exit.length = 8 then .error 13 else .ok (withT c o { s with exit := s.exit ++ [n.acts] }, o)
    else if n.kind = 12 then .ok (c, s.parent)
    else if manyT c.states = 96 then .error 13 else .ok (withT c o { s with trans := s.trans ++ [trOf n] }, o)
/-- One line: the chart, and which state is open (-1: none yet). -/
def stepT (c : Ch) (o : Int) (n : Ln) : Except Int (Ch × Int) :=
  if n.kind = 1 then if 0 ≤ o then .error 30 else .ok (⟨n.name, [], [⟨n.name, 1, -1, n.start, [], [], []⟩]⟩, 0)
  else if o < 0 then .error 30
  else if n.kind = 2 then
    if 1 < c.states.length then .error 30 else if c.vars.length = 16 then .error 13
    else .ok ({ c with vars := c.vars ++ [⟨n.name, n.vk, n.vn, n.vs⟩] }, o)
  else if 8 ≤ n.kind then innerT c o n
  else if (c.states.getD o.toNat st0).kind = 5 then .error 30
  else if c.states.length = 49 then .error 13
  else if deepT c.states 49 o = 8 then .error 23
  else .ok ({ c with states := c.states ++ [⟨n.name, n.kind, o, n.start, [], [], []⟩] }, if n.kind ≤ 5 then (c.states.length : Int) else o)
/-- Lines, from the i-th on. -/
def runT : Nat → List (List UInt8) → Ch → Int → Except (Int × Nat) (Ch × Int)
  | _, [], c, o => .ok (c, o)
  | i, l :: ls, c, o =>
    if i = 400 then .error (13, i + 1)
    else if 400 < l.length then .error (15, i + 1)
    else if emptyT l then runT (i + 1) ls c o
    else match parseL l with
      | .error e => .error (e, i + 1)
      | .ok n => match stepT c o n with
        | .error e => .error (e, i + 1)
        | .ok (d, p) => runT (i + 1) ls d p
/-- A chart's text. -/
def chartT (l : List UInt8) : Except (Int × Nat) Ch :=
  match runT 0 (linesT l) ch0 (-1) with
  | .error x => .error x
  | .ok (c, o) => if o = 0 then .ok c else .error (14, 0)
/-! ### Lines, and their text -/
def joinN : List (List UInt8) → List UInt8
  | [] => []
  | [l] => l
  | l :: m :: ls => l ++ 10 :: joinN (m :: ls)
theorem linesT_ne : ∀ l, linesT l ≠ []
  | [] => by simp [linesT]
  | c :: r => by
    rw [linesT]
    split
    · simp
    · split <;> simp
theorem linesT_plain : ∀ (l : List UInt8), (∀ c ∈ l, c ≠ 10) → linesT l = [l]
  | [], _ => rfl
  | c :: r, h => by
    rw [linesT, if_neg (h c (by simp)), linesT_plain r fun d hd => h d (by simp [hd])]
theorem linesT_cut : ∀ (l r : List UInt8), (∀ c ∈ l, c ≠ 10) → linesT (l ++ 10 :: r) = l :: linesT r
  | [], r, _ => by rw [List.nil_append, linesT, if_pos rfl]
  | c :: l, r, h => by
    rw [List.cons_append, linesT, if_neg (h c (by simp)), linesT_cut l r fun d hd => h d (by simp [hd])]
/-! ### A line that says nothing -/
end Go.Proofs.YtekfnnfphhoeoaaGreatDoor
/- Plain: what holds of a chart that was parsed. No program. -/
namespace Go.Proofs.YtekfnnfphhoeoaaGreatDoor
theorem getD_set {ss : List St} {s : St} {k i : Nat} (hk : k < ss.length) : (ss.set k s).getD i st0 = if i = k then s else ss.getD i st0 := by
  rw [List.getD_eq_getElem?_getD, List.getD_eq_getElem?_getD, List.getElem?_set]
  by_cases h : k = i
  · subst h
    rw [if_pos rfl, if_pos rfl, if_pos hk]
    rfl
  · rw [if_neg h, if_neg (fun e => h e.symm)]
theorem getD_snoc {ss : List St} {s : St} {i : Nat} : (ss ++ [s]).getD i st0 = if i < ss.length then ss.getD i st0 else if i = ss.length then s else st0 := by
  rw [List.getD_eq_getElem?_getD, List.getD_eq_getElem?_getD]
  by_cases h : i < ss.length
  · rw [if_pos h, List.getElem?_append_left h]
  · rw [if_neg h, List.getElem?_append_right (by omega)]
    by_cases h2 : i = ss.length
    · rw [if_pos h2, h2, Nat.sub_self]; rfl
    · rw [if_neg h2, List.getElem?_eq_none (by simp; omega)]; rfl
/-- What holds of a chart, and of the state that is open. -/
structure GoodC (c : Ch) (o : Int) : Prop where
  some : 0 < c.states.length
  root : (c.states.getD 0 st0).parent = -1
  par : ∀ i, 0 < i → i < c.states.length → 0 ≤ (c.states.getD i st0).parent ∧ (c.states.getD i st0).parent < (i : Int)
  lo : 0 ≤ o
  hi : o < (c.states.length : Int)
  few : c.states.length ≤ 49
  vars : c.vars.length ≤ 16
  lists : ∀ i, i < c.states.length → (c.states.getD i st0).enter.length ≤ 8 ∧ (c.states.getD i st0).exit.length ≤ 8
  trans : manyT c.states ≤ 96
theorem many_snoc (ss : List St) (s : St) : manyT (ss ++ [s]) = manyT ss + s.trans.length := by
  unfold manyT
  rw [List.map_append, List.sum_append]
  simp
theorem many_set : ∀ (ss : List St) (k : Nat) (s : St), k < ss.length → manyT (ss.set k s) + (ss.getD k st0).trans.length = manyT ss + s.trans.length
  | [], k, s, h => by simp at h
  | a :: ss, 0, s, _ => by
    unfold manyT
    simp
    omega
  | a :: ss, k + 1, s, h => by
    have := many_set ss k s (by simpa using h)
    unfold manyT at this ⊢
    simp at this ⊢
    omega
/-- A state is replaced by one with the same parent. -/
theorem good_with {c : Ch} {o p : Int} {s : St} (g : GoodC c o) (hp : 0 ≤ p) (hp2 : p < (c.states.length : Int)) (h1 : s.parent = (c.states.getD p.toNat st0).parent) (h2 : s.enter.length ≤ 8) (h3 : s.exit.length ≤ 8) (h4 : manyT (c.states.set p.toNat s) ≤ 96) : GoodC (withT c p s) o := by
  obtain ⟨k, rfl⟩ : ∃ k : Nat, p = (k : Int) := ⟨p.toNat, by omega⟩
  have hk : k < c.states.length := by omega
  simp only [Int.toNat_natCast] at h1 h4
  unfold withT
  refine ⟨?_, ?_, fun i h0 hi => ?_, g.lo, ?_, ?_, g.vars, fun i hi => ?_, h4⟩
  · simpa using g.some
  · simp only [Int.toNat_natCast]
    rw [getD_set hk]
    split
    · rename_i h; rw [h1, ← h]; exact g.root
    · exact g.root
  · simp only [Int.toNat_natCast, List.length_set] at hi ⊢
    rw [getD_set hk]
    split
    · rename_i h; subst h; rw [h1]; exact g.par _ h0 hi
    · exact g.par _ h0 hi
  · simpa using g.hi
  · simpa using g.few
  · simp only [Int.toNat_natCast, List.length_set] at hi ⊢
    rw [getD_set hk]
    split
    · exact ⟨h2, h3⟩
    · exact g.lists _ hi
theorem good_open {c : Ch} {o p : Int} (g : GoodC c o) (h1 : 0 ≤ p) (h2 : p < (c.states.length : Int)) : GoodC c p := ⟨g.some, g.root, g.par, h1, h2, g.few, g.vars, g.lists, g.trans⟩
theorem good_parent {c : Ch} {o : Int} (g : GoodC c o) (h : o ≠ 0) : 0 ≤ (c.states.getD o.toNat st0).parent ∧ (c.states.getD o.toNat st0).parent < (c.states.length : Int) := by
  have h1 := g.lo
  have h2 := g.hi
  have := g.par o.toNat (by omega) (by omega)
  omega
/-- Behind a line. -/
theorem good_step {c d : Ch} {o p : Int} {n : Ln} (g : o < 0 ∨ GoodC c o) (h : stepT c o n = .ok (d, p)) : GoodC d p := by
  unfold stepT at h
  split at h
  · split at h
    · cases h
    · cases h
      refine ⟨by simp, by simp, fun i h0 hi => ?_, by omega, by simp, by simp, by simp, fun i hi => ?_, by simp [manyT]⟩
      · simp at hi; omega
      · have : i = 0 := by simp at hi; omega
        subst this
        simp
  · split at h
    · cases h
    · rename_i hneg
      have g : GoodC c o := by
        rcases g with h1 | h1
        · exact absurd h1 hneg
        · exact h1
      have hlo := g.lo
      have hhi := g.hi
      split at h
      · split at h
        · cases h
        · split at h
          · cases h
          · rename_i hv
            cases h
            exact ⟨g.some, g.root, g.par, g.lo, g.hi, g.few, by have := g.vars; simp; omega, g.lists, g.trans⟩
      · split at h
        · unfold innerT at h
          split at h
          · cases h
          · rename_i h0
            have hl := g.lists o.toNat (by omega)
            have hm := many_set c.states o.toNat
            simp only at h
            split at h
            · split at h
              · cases h
              · cases h
                refine good_with g hlo hhi rfl (by simp only [List.length_append, List.length_singleton]; omega) hl.2 ?_
                have := hm { c.states.getD o.toNat st0 with enter := (c.states.getD o.toNat st0).enter ++ [n.acts] } (by omega)
                have := g.trans
                simp only at *
                omega
            · split at h
              · split at h
                · cases h
                · cases h
                  refine good_with g hlo hhi rfl hl.1 (by simp only [List.length_append, List.length_singleton]; omega) ?_
                  have := hm { c.states.getD o.toNat st0 with exit := (c.states.getD o.toNat st0).exit ++ [n.acts] } (by omega)
                  have := g.trans
                  simp only at *
                  omega
              · split at h
                · cases h
                  obtain ⟨h1, h2⟩ := good_parent g h0
                  exact good_open g h1 h2
                · split at h
                  · cases h
                  · rename_i h96
                    cases h
                    refine good_with g hlo hhi rfl hl.1 hl.2 ?_
                    have := hm { c.states.getD o.toNat st0 with trans := (c.states.getD o.toNat st0).trans ++ [trOf n] } (by omega)
                    have := g.trans
                    simp only [List.length_append, List.length_singleton] at *
                    omega
        · split at h
          · cases h
          · split at h
            · cases h
            · split at h
              · cases h
              · rename_i h49 _
                cases h
                have hfew := g.few
                refine ⟨by simp, ?_, fun i h0 hi => ?_, ?_, ?_, by simp; omega, g.vars, fun i hi => ?_, ?_⟩
                · simp only
                  rw [getD_snoc, if_pos g.some]
                  exact g.root
                · simp only [List.length_append, List.length_singleton] at hi ⊢
                  rw [getD_snoc]
                  split
                  · rename_i hlt; exact g.par i h0 hlt
                  · rw [if_pos (by omega)]
                    simp only
                    omega
                · split
                  · omega
                  · exact hlo
                · simp only [List.length_append, List.length_singleton]
                  split <;> omega
                · simp only [List.length_append, List.length_singleton] at hi ⊢
                  rw [getD_snoc]
                  split
                  · rename_i hlt; exact g.lists i hlt
                  · rw [if_pos (by omega)]
                    simp
                · simp only
                  rw [many_snoc]
                  have := g.trans
                  simp
                  omega
end Go.Proofs.YtekfnnfphhoeoaaGreatDoor
/- Plain: what holds of a chart that was read. No program. -/
namespace Go.Proofs.YtekfnnfphhoeoaaGreatDoor
theorem good_run : ∀ (ls : List (List UInt8)) (i : Nat) (c d : Ch) (o p : Int), (o < 0 ∨ GoodC c o) → runT i ls c o = .ok (d, p) → p < 0 ∨ GoodC d p
  | [], _, _, _, _, _, g, h => by cases h; exact g
  | l :: ls, i, c, d, o, p, g, h => by
    rw [runT] at h
    split at h
    · cases h
    · split at h
      · cases h
      · split at h
        · exact good_run ls _ _ _ _ _ g h
        · split at h
          · cases h
          · split at h
            · cases h
            · rename_i hs
              exact good_run ls _ _ _ _ _ (.inr (good_step g hs)) h
/-- A chart that was parsed. -/
theorem good_chart {l : List UInt8} {c : Ch} (h : chartT l = .ok c) : GoodC c 0 := by
  unfold chartT at h
  split at h
  · cases h
  · rename_i d o hr
    split at h
    · rename_i h0
      cases h
      subst h0
      rcases good_run _ _ _ _ _ _ (.inl (by decide)) hr with h1 | h1
      · exact absurd h1 (by decide)
      · exact h1
    · cases h
end Go.Proofs.YtekfnnfphhoeoaaGreatDoor
/- Plain: a line that says nothing, among a chart's lines. No program. -/
namespace Go.Proofs.YtekfnnfphhoeoaaGreatDoor
/-- Lines without newlines, joined, are these lines again. -/
theorem lines_join : ∀ (ls : List (List UInt8)), ls ≠ [] → (∀ l ∈ ls, ∀ c ∈ l, c ≠ 10) → linesT (joinN ls) = ls
  | [], h, _ => absurd rfl h
  | [l], _, h => by rw [joinN, linesT_plain l (h l (by simp))]
  | l :: m :: ls, _, h => by
    rw [joinN, linesT_cut l _ (h l (by simp)), lines_join (m :: ls) (by simp) fun x hx => h x (by simp at hx ⊢; right; exact hx)]
/-- No line of a text has a newline; joined, they are the text. -/
theorem lines_of : ∀ (l : List UInt8), (∀ x ∈ linesT l, ∀ c ∈ x, c ≠ 10) ∧ joinN (linesT l) = l
  | [] => by simp [linesT, joinN]
  | c :: r => by
    obtain ⟨h1, h2⟩ := lines_of r
    rw [linesT]
    split
    · rename_i hc
      subst hc
      refine ⟨fun x hx => ?_, ?_⟩
      · rcases List.mem_cons.1 hx with rfl | hx
        · simp
        · exact h1 x hx
      · cases hr : linesT r with
        | nil => exact absurd hr (linesT_ne r)
        | cons m ms =>
          rw [joinN, ← hr, h2]
          rfl
    · rename_i hc
      cases hr : linesT r with
      | nil => exact absurd hr (linesT_ne r)
      | cons m ms =>
        rw [hr] at h1 h2
        refine ⟨fun x hx => ?_, ?_⟩
        · rcases List.mem_cons.1 hx with rfl | hx
          · intro d hd
            rcases List.mem_cons.1 hd with rfl | hd
            · exact hc
            · exact h1 m (by simp) d hd
          · exact h1 x (by simp [hx])
        · cases ms with
          | nil => rw [joinN] at h2 ⊢; rw [h2]
          | cons k ks => rw [joinN] at h2 ⊢; rw [← h2]; rfl
/-! ### A line that says nothing -/
def later (x : Except (Int × Nat) (Ch × Int)) : Except (Int × Nat) (Ch × Int) :=
  match x with
  | .error (e, n) => .error (e, n + 1)
  | .ok p => .ok p
/-- One line further behind there are the same answers, but for the numbers. -/
theorem run_later : ∀ (ls : List (List UInt8)) (i : Nat) (c : Ch) (o : Int), i + ls.length < 400 → runT (i + 1) ls c o = later (runT i ls c o)
  | [], _, _, _, _ => rfl
  | l :: ls, i, c, o, h => by
    rw [List.length_cons] at h
    rw [runT, runT, if_neg (show ¬ i + 1 = 400 by omega), if_neg (show ¬ i = 400 by omega)]
    by_cases h1 : 400 < l.length
    · rw [if_pos h1, if_pos h1]; rfl
    · rw [if_neg h1, if_neg h1]
      by_cases h2 : emptyT l = true
      · rw [if_pos h2, if_pos h2]
        exact run_later ls (i + 1) c o (by omega)
      · rw [if_neg h2, if_neg h2]
        cases parseL l with
        | error e => rfl
        | ok n =>
          simp only
          cases stepT c o n with
          | error e => rfl
          | ok p => exact run_later ls (i + 1) p.1 p.2 (by omega)
/-- What comes of lines with one more that says nothing behind the first ones. -/
def shiftT (at_ : Nat) (x : Except (Int × Nat) (Ch × Int)) : Except (Int × Nat) (Ch × Int) :=
  match x with
  | .error (e, n) => .error (e, if at_ < n then n + 1 else n)
  | .ok p => .ok p
theorem run_over : ∀ (ls : List (List UInt8)) (i : Nat) (c : Ch) (o : Int) (e : Int) (n : Nat), runT i ls c o = .error (e, n) → i < n
  | [], _, _, _, _, _, h => by cases h
  | l :: ls, i, c, o, e, n, h => by
    rw [runT] at h
    split at h
    · cases h; omega
    · split at h
      · cases h; omega
      · split at h
        · have := run_over ls (i + 1) c o e n h
          omega
        · split at h
          · cases h; omega
          · split at h
            · cases h; omega
            · rename_i d p _
              have := run_over ls (i + 1) d p e n h
              omega
theorem run_remark (said : List UInt8) (h1 : said.length ≤ 400) (h2 : emptyT said = true) : ∀ (pre post : List (List UInt8)) (i : Nat) (c : Ch) (o : Int), i + pre.length + post.length < 400 →
    runT i (pre ++ said :: post) c o = shiftT (i + pre.length) (runT i (pre ++ post) c o)
  | [], post, i, c, o, h => by
    simp only [List.length_nil] at h
    rw [List.nil_append, List.nil_append, runT, if_neg (by omega), if_neg (by omega), if_pos h2, run_later post i c o (by omega), List.length_nil, Nat.add_zero]
    cases hr : runT i post c o with
    | error x =>
      obtain ⟨e, n⟩ := x
      have := run_over post i c o e n hr
      simp only [later, shiftT]
      rw [if_pos this]
    | ok p => rfl
  | l :: pre, post, i, c, o, h => by
    rw [List.length_cons] at h
    rw [List.cons_append, List.cons_append, runT, runT, if_neg (show ¬ i = 400 by omega), if_neg (show ¬ i = 400 by omega)]
    have hn : ∀ e : Int, shiftT (i + (l :: pre).length) (.error (e, i + 1)) = .error (e, i + 1) := fun e => by
      simp only [shiftT]
      rw [if_neg (by simp)]
    by_cases h3 : 400 < l.length
    · rw [if_pos h3, if_pos h3, hn]
    · rw [if_neg h3, if_neg h3]
      have hl : i + (l :: pre).length = i + 1 + pre.length := by rw [List.length_cons]; omega
      by_cases h4 : emptyT l = true
      · rw [if_pos h4, if_pos h4, hl]
        exact run_remark said h1 h2 pre post (i + 1) c o (by omega)
      · rw [if_neg h4, if_neg h4]
        cases parseL l with
        | error e => exact (hn e).symm
        | ok n =>
          simp only
          cases stepT c o n with
          | error e => exact (hn e).symm
          | ok p =>
            rw [hl]
            exact run_remark said h1 h2 pre post (i + 1) p.1 p.2 (by omega)
/-- The chart of a text with a remark among its lines. -/
theorem chart_remark {l said : List UInt8} {k : Nat} (h1 : said.length ≤ 400) (h2 : emptyT said = true) (h3 : ∀ c ∈ said, c ≠ 10) (h4 : (linesT l).length < 400) :
    chartT (joinN ((linesT l).take k ++ said :: (linesT l).drop k)) = match chartT l with
      | .error (e, n) => .error (e, if ((linesT l).take k).length < n then n + 1 else n)
      | .ok c => .ok c := by
  obtain ⟨ho, _⟩ := lines_of l
  have hj : linesT (joinN ((linesT l).take k ++ said :: (linesT l).drop k)) = (linesT l).take k ++ said :: (linesT l).drop k := by
    refine lines_join _ (by simp) fun x hx => ?_
    rw [List.mem_append, List.mem_cons] at hx
    rcases hx with hx | rfl | hx
    · exact ho x (List.mem_of_mem_take hx)
    · exact h3
    · exact ho x (List.mem_of_mem_drop hx)
  unfold chartT
  rw [hj, run_remark said h1 h2 _ _ 0 ch0 (-1) (by
    have := congrArg List.length (List.take_append_drop k (linesT l))
    rw [List.length_append] at this
    omega), List.take_append_drop, Nat.zero_add]
  cases runT 0 (linesT l) ch0 (-1) with
  | error x => rfl
  | ok p =>
    obtain ⟨c, o⟩ := p
    simp only [shiftT]
    by_cases h0 : o = 0
    · rw [if_pos h0]
    · rw [if_neg h0]
      simp
end Go.Proofs.YtekfnnfphhoeoaaGreatDoor
/- Plain: a text's lines, found letter by letter; a line put among them. No program. -/
namespace Go.Proofs.YtekfnnfphhoeoaaGreatDoor
/-- A beginning ahead of the first line. -/
def glueT (p : List UInt8) : List (List UInt8) → List (List UInt8)
  | [] => [p]
  | l :: ls => (p ++ l) :: ls
theorem glue_nil (l : List UInt8) : glueT [] (linesT l) = linesT l := by
  cases h : linesT l with
  | nil => exact absurd h (linesT_ne l)
  | cons m ms => simp [glueT]
theorem glue_end (p : List UInt8) : glueT p (linesT []) = [p] := by simp [glueT, linesT]
theorem glue_nl (p r : List UInt8) : glueT p (linesT (10 :: r)) = p :: linesT r := by
  rw [linesT, if_pos rfl]
  simp [glueT]
theorem glue_go (p r : List UInt8) (c : UInt8) (h : c ≠ 10) : glueT p (linesT (c :: r)) = glueT (p ++ [c]) (linesT r) := by
  rw [linesT, if_neg h]
  cases linesT r with
  | nil => simp [glueT]
  | cons m ms => simp [glueT]
theorem drop_at1 {l : List UInt8} {i : Nat} (h : i < l.length) : l.drop i = l[i] :: l.drop (i + 1) := (List.drop_eq_getElem_cons h)
theorem cut_more {l : List UInt8} {a i : Nat} (h : i < l.length) (ha : a ≤ i) : (l.take (i + 1)).drop a = (l.take i).drop a ++ [l[i]] := by
  rw [List.take_add_one, List.getElem?_eq_getElem h, List.drop_append_of_le_length (by rw [List.length_take]; omega)]
  rfl
theorem lines_nl {l : List UInt8} {out : List (List UInt8)} {a i : Nat} (hi : i < l.length) (hc : l[i] = 10) (h : linesT l = out ++ glueT ((l.take i).drop a) (linesT (l.drop i))) : linesT l = (out ++ [(l.take i).drop a]) ++ glueT ((l.take (i + 1)).drop (i + 1)) (linesT (l.drop (i + 1))) := by
  rw [drop_at1 hi, hc, glue_nl] at h
  have e : (l.take (i + 1)).drop (i + 1) = [] := List.drop_of_length_le (by rw [List.length_take]; omega)
  rw [h, e, glue_nil]
  simp
theorem lines_go {l : List UInt8} {out : List (List UInt8)} {a i : Nat} (hi : i < l.length) (ha : a ≤ i) (hc : l[i] ≠ 10) (h : linesT l = out ++ glueT ((l.take i).drop a) (linesT (l.drop i))) : linesT l = out ++ glueT ((l.take (i + 1)).drop a) (linesT (l.drop (i + 1))) := by
  rw [drop_at1 hi, glue_go _ _ _ hc] at h
  rw [h, cut_more hi ha]
theorem lines_end {l : List UInt8} {out : List (List UInt8)} {a : Nat} (h : linesT l = out ++ glueT ((l.take l.length).drop a) (linesT (l.drop l.length))) : linesT l = out ++ [l.drop a] := by
  rw [List.drop_length, glue_end, List.take_length] at h
  exact h
theorem linesT_len : ∀ l, (linesT l).length ≤ l.length + 1
  | [] => by simp [linesT]
  | c :: r => by
    have ih := linesT_len r
    rw [linesT]
    split
    · simp; omega
    · split
      · simp
      · rename_i h
        rw [h] at ih
        simp at ih ⊢
        omega
/-! ### A line put among others -/
theorem joinN_snoc : ∀ (ls : List (List UInt8)) (x : List UInt8), joinN (ls ++ [x]) = joinN ls ++ (if ls = [] then [] else [10]) ++ x
  | [], x => by simp [joinN]
  | [l], x => by simp [joinN]
  | l :: m :: ls, x => by
    have ih := joinN_snoc (m :: ls) x
    rw [List.cons_append] at ih
    rw [List.cons_append, List.cons_append, joinN, ih, joinN]
    simp
/-- Lines with one more at a place, as far as the i-th. -/
def insT (ls : List (List UInt8)) (k : Nat) (x : List UInt8) (i : Nat) : List (List UInt8) := if i ≤ k then ls.take i else ls.take k ++ x :: (ls.take i).drop k
def addT (k : Nat) (x : List UInt8) (i : Nat) (s : List UInt8) : List UInt8 := (if 0 < i then [10] else []) ++ ((if i = k then x ++ [10] else []) ++ s)
theorem take_more {ls : List (List UInt8)} {i : Nat} (h : i < ls.length) : ls.take (i + 1) = ls.take i ++ [ls[i]] := by
  rw [List.take_add_one, List.getElem?_eq_getElem h]
  rfl
theorem ins_more {ls : List (List UInt8)} {k i : Nat} {x : List UInt8} (hi : i < ls.length) : joinN (insT ls k x (i + 1)) = joinN (insT ls k x i) ++ addT k x i ls[i] := by
  have e0 : (ls.take i = []) ↔ i = 0 := by
    constructor
    · intro h
      have := congrArg List.length h
      rw [List.length_take, List.length_nil] at this
      omega
    · rintro rfl; rfl
  unfold addT
  by_cases h1 : i + 1 ≤ k
  · unfold insT
    rw [if_pos h1, if_pos (by omega), take_more hi, joinN_snoc, if_neg (show ¬ i = k by omega)]
    by_cases h0 : i = 0
    · rw [if_pos (e0.2 h0), if_neg (by omega)]; simp
    · rw [if_neg (fun h => h0 (e0.1 h)), if_pos (by omega)]; simp
  · by_cases h2 : i = k
    · subst h2
      unfold insT
      rw [if_neg h1, if_pos (Nat.le_refl _), if_pos rfl, take_more hi, List.drop_append_of_le_length (by rw [List.length_take]; omega), List.drop_of_length_le (by rw [List.length_take]; omega), List.nil_append,
        show ls.take i ++ x :: [ls[i]] = (ls.take i ++ [x]) ++ [ls[i]] by simp, joinN_snoc, joinN_snoc, if_neg (show ¬ ls.take i ++ [x] = [] by simp)]
      by_cases h0 : i = 0
      · rw [if_pos (e0.2 h0), if_neg (by omega)]; simp
      · rw [if_neg (fun h => h0 (e0.1 h)), if_pos (by omega)]; simp
    · unfold insT
      rw [if_neg h1, if_neg (by omega), if_neg h2, if_pos (by omega), take_more hi, List.drop_append_of_le_length (by rw [List.length_take]; omega),
        show ls.take k ++ x :: ((ls.take i).drop k ++ [ls[i]]) = (ls.take k ++ x :: (ls.take i).drop k) ++ [ls[i]] by simp, joinN_snoc, if_neg (by simp)]
      simp
theorem ins_zero (ls : List (List UInt8)) (k : Nat) (x : List UInt8) : joinN (insT ls k x 0) = [] := by
  unfold insT
  rw [if_pos (Nat.zero_le _)]
  simp [joinN]
theorem ins_all (ls : List (List UInt8)) (k : Nat) (x : List UInt8) (hk : k < ls.length) : insT ls k x ls.length = ls.take k ++ x :: ls.drop k := by
  unfold insT
  rw [if_neg (by omega), List.take_length]
/-- A remark's text: what is no newline. -/
def saidT (l : List UInt8) : List UInt8 := 35 :: l.filter (· ≠ 10)
theorem said_more {l : List UInt8} {i : Nat} (h : i < l.length) : saidT (l.take (i + 1)) = saidT (l.take i) ++ (if l[i] = 10 then [] else [l[i]]) := by
  unfold saidT
  rw [List.take_add_one, List.getElem?_eq_getElem h, List.filter_append]
  by_cases hc : l[i] = 10 <;> simp [hc]
theorem said_ok (l : List UInt8) (h : l.length ≤ 200) : (saidT l).length ≤ 400 ∧ emptyT (saidT l) = true ∧ ∀ c ∈ saidT l, c ≠ 10 := by
  unfold saidT
  refine ⟨?_, ?_, ?_⟩
  · rw [List.length_cons]
    have := List.length_filter_le (fun c : UInt8 => decide (c ≠ 10)) l
    omega
  · rw [emptyT, if_pos rfl]
  · intro c hc
    rcases List.mem_cons.1 hc with rfl | hc
    · decide
    · simpa using (List.mem_filter.1 hc).2
/-- How long a text with a line more is. -/
theorem joinN_len : ∀ (ls : List (List UInt8)) (n : Nat), (∀ l ∈ ls, l.length ≤ n) → (joinN ls).length ≤ ls.length * (n + 1)
  | [], _, _ => by simp [joinN]
  | [l], n, h => by
    have := h l (by simp)
    simp [joinN]
    omega
  | l :: m :: ls, n, h => by
    have h1 := h l (by simp)
    have h2 := joinN_len (m :: ls) n fun x hx => h x (by simp at hx ⊢; right; exact hx)
    rw [joinN, List.length_append, List.length_cons, List.length_cons (a := l), Nat.succ_mul]
    omega
theorem lines_short : ∀ (l : List UInt8), ∀ x ∈ linesT l, x.length ≤ l.length
  | [], x, h => by
    simp [linesT] at h
    subst h
    simp
  | c :: r, x, h => by
    have ih := lines_short r
    rw [linesT] at h
    split at h
    · rcases List.mem_cons.1 h with rfl | h
      · simp
      · have := ih x h
        rw [List.length_cons]; omega
    · split at h
      · simp at h
        subst h
        simp
      · rename_i m ms hm
        rw [hm] at ih
        rcases List.mem_cons.1 h with rfl | h
        · have := ih m (by simp)
          simp; omega
        · have := ih x (by simp [h])
          rw [List.length_cons]; omega
theorem ins_len {l x : List UInt8} {k i : Nat} (hl : l.length ≤ 20000) (hn : (linesT l).length ≤ 400) (hx : x.length ≤ 201) : (joinN (insT (linesT l) k x i)).length ≤ 8200000 := by
  have h1 := joinN_len (insT (linesT l) k x i) 20000 fun y hy => by
    have hs := lines_short l
    unfold insT at hy
    split at hy
    · exact Nat.le_trans (hs y (List.mem_of_mem_take hy)) hl
    · rcases List.mem_append.1 hy with hy | hy
      · exact Nat.le_trans (hs y (List.mem_of_mem_take hy)) hl
      · rcases List.mem_cons.1 hy with rfl | hy
        · omega
        · exact Nat.le_trans (hs y (List.mem_of_mem_take (List.mem_of_mem_drop hy))) hl
  have h2 : (insT (linesT l) k x i).length ≤ 401 := by
    unfold insT
    split
    · rw [List.length_take]; omega
    · rw [List.length_append, List.length_cons, List.length_drop, List.length_take, List.length_take]; omega
  have := Nat.mul_le_mul_right (20000 + 1) h2
  omega
end Go.Proofs.YtekfnnfphhoeoaaGreatDoor
/- Plain: the states that are open while a chart is read. No program. -/
namespace Go.Proofs.YtekfnnfphhoeoaaGreatDoor
/-- The places of the states that are open, the root's first; o is the last one. -/
inductive Opn (ss : List St) : List Nat → Int → Prop
  | root : Opn ss [0] 0
  | more {op : List Nat} {p : Int} {i : Nat} : Opn ss op p → 0 < i → i < ss.length → (ss.getD i st0).parent = p → Opn ss (op ++ [i]) (i : Int)
theorem opn_last {ss : List St} {op : List Nat} {o : Int} (h : Opn ss op o) : ∃ (pre : List Nat) (i : Nat), op = pre ++ [i] ∧ o = (i : Int) := by
  cases h with
  | root => exact ⟨[], 0, rfl, rfl⟩
  | more _ _ _ _ => exact ⟨_, _, rfl, rfl⟩
theorem opn_one {ss : List St} {op : List Nat} {o : Int} (h : Opn ss op o) : 0 < op.length ∧ (op.length = 1 ↔ o = 0) := by
  cases h with
  | root => exact ⟨by decide, by simp⟩
  | more h1 h2 _ _ =>
    obtain ⟨pre, j, rfl, _⟩ := opn_last h1
    exact ⟨by simp, by simp; omega⟩
theorem opn_few {ss : List St} {op : List Nat} {o : Int} (h : Opn ss op o) (hp : ∀ i, 0 < i → i < ss.length → (ss.getD i st0).parent < (i : Int)) : (op.length : Int) ≤ o + 1 := by
  induction h with
  | root => decide
  | @more op p i _ h2 h3 h4 ih =>
    have := hp i h2 h3
    rw [List.length_append]
    simp only [List.length_singleton]
    omega
theorem opn_deep {ss : List St} {op : List Nat} {o : Int} (h : Opn ss op o) : ∀ f, op.length ≤ f + 1 → deepT ss f o + 1 = op.length := by
  induction h with
  | root =>
    intro f _
    cases f <;> simp [deepT]
  | @more op p i h1 h2 _ h4 ih =>
    intro f hf
    have hl := (opn_one h1).1
    rw [List.length_append] at hf ⊢
    simp only [List.length_singleton] at hf ⊢
    cases f with
    | zero => omega
    | succ f =>
      rw [deepT, if_neg (by omega), Int.toNat_natCast, h4, ih f (by omega)]
theorem opn_snoc {ss : List St} {s : St} {op : List Nat} {o : Int} (h : Opn ss op o) : Opn (ss ++ [s]) op o := by
  induction h with
  | root => exact .root
  | more _ h2 h3 h4 ih => exact .more ih h2 (by simp; omega) (by rw [getD_snoc, if_pos h3]; exact h4)
theorem opn_set {ss : List St} {s : St} {k : Nat} {op : List Nat} {o : Int} (h : Opn ss op o) (hk : k < ss.length) (hs : s.parent = (ss.getD k st0).parent) : Opn (ss.set k s) op o := by
  induction h with
  | root => exact .root
  | @more op p i _ h2 h3 h4 ih =>
    refine .more ih h2 (by simpa using h3) ?_
    rw [getD_set hk]
    split
    · rename_i e; subst e; rw [hs]; exact h4
    · exact h4
theorem opn_pop {ss : List St} {op : List Nat} {o : Int} (h : Opn ss op o) (h0 : o ≠ 0) : Opn ss (op.take (op.length - 1)) (ss.getD o.toNat st0).parent := by
  cases h with
  | root => exact absurd rfl h0
  | more h1 _ _ h4 =>
    rw [Int.toNat_natCast, h4, List.length_append]
    simpa using h1
end Go.Proofs.YtekfnnfphhoeoaaGreatDoor
