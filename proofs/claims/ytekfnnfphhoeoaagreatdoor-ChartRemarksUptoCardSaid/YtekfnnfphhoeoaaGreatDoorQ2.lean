/- Several texts of this proof, joined: SM, SN. -/
import Derived.Test.YtekfnnfphhoeoaaGreatDoorY5
import Derived.Test.YtekfnnfphhoeoaaGreatDoorV1
import Derived.Test.YtekfnnfphhoeoaaGreatDoorQ1
/- Plain: how many parts acts have, and what holds of a chart's. No program. -/
namespace Go.Proofs.YtekfnnfphhoeoaaGreatDoor
def SmallA (c : Ac) : Prop := c.cond.length ≤ 32 ∧ c.x.length ≤ 32
theorem tailA_small {ts : List Tk} {cond : List Nd} {k : Int} {name : List UInt8} {a : Nat} {c : Ac} {n : Nat} (hc : cond.length ≤ 32) (h : tailA ts cond k name a = .ok (c, n)) : SmallA c := by
  unfold tailA at h
  split at h
  · split at h
    · cases h
    · rename_i hp
      cases h
      exact ⟨hc, (parseT_at hp).2⟩
  · split at h
    · split at h
      · cases h
      · split at h
        · cases h
        · cases h
          exact ⟨hc, Nat.zero_le _⟩
    · cases h
      exact ⟨hc, Nat.zero_le _⟩
theorem doA_small {ts : List Tk} {cond : List Nd} {a : Nat} {c : Ac} {n : Nat} (hc : cond.length ≤ 32) (h : doA ts cond a = .ok (c, n)) : SmallA c := by
  unfold doA at h
  split at h
  · cases h
  · split at h
    · exact tailA_small hc h
    · split at h
      · cases h
      · exact tailA_small hc h
theorem oneA_small {ts : List Tk} {a : Nat} {c : Ac} {n : Nat} (h : oneA ts a = .ok (c, n)) : SmallA c := by
  unfold oneA at h
  split at h
  · split at h
    · cases h
    · rename_i hp
      split at h
      · exact doA_small (parseT_at hp).2 h
      · cases h
  · exact doA_small (Nat.zero_le _) h
theorem takeA_small {ts : List Tk} : ∀ (f a : Nat) (cs : List Ac) (q : Nat), takeA f ts a = .ok (cs, q) → 0 < cs.length ∧ q ≤ ts.length ∧ ∀ c ∈ cs, SmallA c
  | 0, _, _, _, h => by cases h
  | f + 1, a, cs, q, h => by
    rw [takeA] at h
    split at h
    · cases h
    · rename_i d n h1
      have hd := oneA_small h1
      have hn : n ≤ ts.length := oneA_le h1
      split at h
      · split at h
        · cases h
        · rename_i ds q' h2
          cases h
          obtain ⟨_, i2, i3⟩ := takeA_small f (n + 1) ds q h2
          refine ⟨by simp, i2, fun c hc => ?_⟩
          rcases List.mem_cons.1 hc with rfl | hc
          · exact hd
          · exact i3 c hc
      · cases h
        refine ⟨by simp, hn, fun c hc => ?_⟩
        rw [List.mem_singleton] at hc
        subst hc
        exact hd
theorem takeT_small {ts : List Tk} {a : Int} {cs : List Ac} {q : Nat} (h : takeT ts a = .ok (cs, q)) : 0 < cs.length ∧ cs.length ≤ 8 ∧ q ≤ ts.length ∧ ∀ c ∈ cs, SmallA c := by
  unfold takeT at h
  split at h
  · cases h
  · obtain ⟨h1, h2, h3⟩ := takeA_small _ _ _ _ h
    exact ⟨h1, (takeA_room _ _ _ _ h).1, h2, h3⟩
theorem big_of_small {cs : List Ac} (h : ∀ c ∈ cs, SmallA c) : ∀ c ∈ cs, c.cond.length ≤ 2000000 ∧ c.x.length ≤ 2000000 := fun c hc => ⟨Nat.le_trans (h c hc).1 (by decide), Nat.le_trans (h c hc).2 (by decide)⟩
/-! ### A chart's parts -/
/-- A list of acts has so few. -/
def SmallB (cs : List Ac) : Prop := cs.length ≤ 8 ∧ ∀ c ∈ cs, SmallA c
structure SmallT (t : Tr) : Prop where
  cond : t.cond.length ≤ 32
  goes : t.goes.length ≤ 4
  thn : SmallB t.thn
end Go.Proofs.YtekfnnfphhoeoaaGreatDoor
/- Plain: how many parts a chart's acts and transitions have. No program. -/
namespace Go.Proofs.YtekfnnfphhoeoaaGreatDoor
structure SmallS (s : St) : Prop where
  enter : ∀ b ∈ s.enter, SmallB b
  exit : ∀ b ∈ s.exit, SmallB b
  trans : ∀ t ∈ s.trans, SmallT t
def SmallC (c : Ch) : Prop := ∀ s ∈ c.states, SmallS s
structure SmallL (n : Ln) : Prop where
  acts : SmallB n.acts
  cond : n.cond.length ≤ 32
  goes : n.goes.length ≤ 4
  thn : SmallB n.thn
theorem smallB_nil : SmallB [] := ⟨by decide, fun _ h => by cases h⟩
theorem smallB_take {ts : List Tk} {a : Int} {cs : List Ac} {q : Nat} (h : takeT ts a = .ok (cs, q)) : SmallB cs := by
  obtain ⟨_, h2, _, h4⟩ := takeT_small h
  exact ⟨h2, h4⟩
theorem smallL_zero (k : Int) : SmallL (ln0 k) := ⟨smallB_nil, Nat.zero_le _, Nat.zero_le _, smallB_nil⟩
theorem goesA_small {ts : List Tk} : ∀ (f : Nat) (gs : List (List UInt8)) (a : Nat) (hs : List (List UInt8)) (b : Nat), goesA ts f gs a = .ok (hs, b) → hs.length ≤ gs.length + f
  | 0, gs, a, hs, b, h => by
    rw [goesA] at h
    split at h
    · split at h
      · cases h
      · cases h; omega
    · cases h
  | f + 1, gs, a, hs, b, h => by
    rw [goesA] at h
    split at h
    · split at h
      · cases h
      · cases h; omega
    · have := goesA_small f _ _ _ _ h
      rw [List.length_append] at this
      simp only [List.length_singleton] at this
      omega
theorem transL_small {ts : List Tk} {n m : Ln} {a b : Nat} (hn : SmallL n) (h : transL ts n a = .ok (m, b)) : SmallL m := by
  unfold transL at h
  split at h
  · cases h
  · rename_i h1
    split at h
    · cases h
    · rename_i h2
      split at h
      · cases h
      · rename_i h3
        cases h
        refine ⟨hn.acts, ?_, ?_, ?_⟩
        · unfold ifL at h1
          split at h1
          · exact (parseT_at h1).2
          · cases h1; exact Nat.zero_le _
        · unfold goL at h2
          split at h2
          · have := goesA_small _ _ _ _ _ h2
            simpa using this
          · cases h2; exact Nat.zero_le _
        · unfold doL at h3
          repeat' split at h3
          all_goals first | exact smallB_take h3 | (cases h3; exact smallB_nil)
theorem namedL_small {ts : List Tk} {k : Nat} {m : Ln} {a b : Nat} (h : namedL ts k a = some (m, b)) : SmallL m := by
  unfold namedL at h
  repeat' split at h
  all_goals first | (cases h; done) | (cases h; exact ⟨smallB_nil, Nat.zero_le _, Nat.zero_le _, smallB_nil⟩)
theorem restL_small {ts : List Tk} {k : Nat} {m : Ln} {a b : Nat} (h : restL ts k a = .ok (m, b)) : SmallL m := by
  unfold restL at h
  split at h
  · cases h; exact smallL_zero _
  · split at h
    · split at h
      · cases h
      · rename_i h1
        cases h
        exact ⟨smallB_take h1, Nat.zero_le _, Nat.zero_le _, smallB_nil⟩
    · split at h
      · split at h
        · cases h
        · exact transL_small ⟨smallB_nil, Nat.zero_le _, Nat.zero_le _, smallB_nil⟩ h
      · split at h
        · exact transL_small (smallL_zero _) h
        · split at h
          · cases h
          · rename_i hn
            cases h
            exact namedL_small hn
theorem parseL_small {l : List UInt8} {n : Ln} (h : parseL l = .ok n) : SmallL n := by
  unfold parseL at h
  split at h
  · cases h
  · unfold lineT at h
    split at h
    · cases h
    · split at h
      · cases h
      · rename_i hr
        split at h
        · cases h
        · cases h
          exact restL_small hr
theorem small_getD {c : Ch} (h : SmallC c) (i : Nat) : SmallS (c.states.getD i st0) := by
  rw [List.getD_eq_getElem?_getD]
  by_cases hi : i < c.states.length
  · rw [List.getElem?_eq_getElem hi]
    exact h _ (List.getElem_mem hi)
  · rw [List.getElem?_eq_none (by omega)]
    exact ⟨fun _ h => (by cases h), fun _ h => (by cases h), fun _ h => (by cases h)⟩
theorem small_with {c : Ch} {o : Int} {s : St} (h : SmallC c) (hs : SmallS s) : SmallC (withT c o s) := fun s' hs' => by
  unfold withT at hs'
  rcases List.mem_or_eq_of_mem_set hs' with h1 | rfl
  · exact h _ h1
  · exact hs
theorem small_step {c d : Ch} {o p : Int} {n : Ln} (h : SmallC c) (hn : SmallL n) (e : stepT c o n = .ok (d, p)) : SmallC d := by
  have hnew : ∀ (nm : List UInt8) (k q : Int) (st : List UInt8), SmallS ⟨nm, k, q, st, [], [], []⟩ := fun _ _ _ _ => ⟨fun _ h => (by cases h), fun _ h => (by cases h), fun _ h => (by cases h)⟩
  have hg := small_getD h o.toNat
  unfold stepT at e
  split at e
  · split at e
    · cases e
    · cases e
      intro s hs
      rw [List.mem_singleton] at hs
      subst hs
      exact hnew _ _ _ _
  · split at e
    · cases e
    · split at e
      · split at e
        · cases e
        · split at e
          · cases e
          · cases e; exact h
      · split at e
        · unfold innerT at e
          simp only at e
          split at e
          · cases e
          · split at e
            · split at e
              · cases e
              · cases e
                refine small_with h ⟨fun b hb => ?_, hg.exit, hg.trans⟩
                rcases List.mem_append.1 hb with hb | hb
                · exact hg.enter _ hb
                · rw [List.mem_singleton] at hb; subst hb; exact hn.acts
            · split at e
              · split at e
                · cases e
                · cases e
                  refine small_with h ⟨hg.enter, fun b hb => ?_, hg.trans⟩
                  rcases List.mem_append.1 hb with hb | hb
                  · exact hg.exit _ hb
                  · rw [List.mem_singleton] at hb; subst hb; exact hn.acts
              · split at e
                · cases e; exact h
                · split at e
                  · cases e
                  · cases e
                    refine small_with h ⟨hg.enter, hg.exit, fun t ht => ?_⟩
                    rcases List.mem_append.1 ht with ht | ht
                    · exact hg.trans _ ht
                    · rw [List.mem_singleton] at ht; subst ht; exact ⟨hn.cond, hn.goes, hn.thn⟩
        · split at e
          · cases e
          · split at e
            · cases e
            · split at e
              · cases e
              · cases e
                intro s hs
                rcases List.mem_append.1 hs with hs | hs
                · exact h _ hs
                · rw [List.mem_singleton] at hs; subst hs; exact hnew _ _ _ _
theorem small_run : ∀ (ls : List (List UInt8)) (i : Nat) (c d : Ch) (o p : Int), SmallC c → runT i ls c o = .ok (d, p) → SmallC d
  | [], _, _, _, _, _, g, h => by cases h; exact g
  | l :: ls, i, c, d, o, p, g, h => by
    rw [runT] at h
    split at h
    · cases h
    · split at h
      · cases h
      · split at h
        · exact small_run ls _ _ _ _ _ g h
        · split at h
          · cases h
          · rename_i hp
            split at h
            · cases h
            · rename_i hs
              exact small_run ls _ _ _ _ _ (small_step g (parseL_small hp) hs) h
theorem small_chart {l : List UInt8} {c : Ch} (h : chartT l = .ok c) : SmallC c := by
  unfold chartT at h
  split at h
  · cases h
  · rename_i hr
    split at h
    · cases h
      exact small_run _ _ _ _ _ _ (fun s hs => by cases hs) hr
    · cases h
end Go.Proofs.YtekfnnfphhoeoaaGreatDoor
