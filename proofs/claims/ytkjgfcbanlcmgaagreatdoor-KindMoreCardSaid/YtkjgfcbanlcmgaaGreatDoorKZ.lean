/- Two lists, each made of two others by append, and a variable of both, in one statement that leaves its order open: what holds behind each operation, whichever comes first. -/
import Derived.Test.YtkjgfcbanlcmgaaGreatDoorKV
import Derived.WalkKit
import Derived.ProofKit
import Derived.OpenShut
import Derived.Handy
import Derived.BigQuiet
import Derived.RegionTactic
import Derived.OwnWalk
import Derived.Maps.AppendAt
import Derived.Laws.OwnMore
import Derived.Lib.Hide
import Derived.WalkSmall
import Derived.WalkLawsBesides
namespace Go.Proofs.YtkjgfcbanlcmgaaGreatDoor
open Go.RowKit
/-! ### A region in whatever order: by what holds behind each set of its operations -/
section
variable {P : Program} {ops : Array Oper} {Q : Exit → Act → World → Prop} {md : Region.Mode}
/-- Is an operation done? -/
def Lt (l : Array Bool) (j : Nat) : Prop := l.getD j false = true
theorem lt_set {l : Array Bool} {i : Nat} (h : i < l.size) (j : Nat) : Lt (l.setIfInBounds i true) j ↔ (j = i ∨ Lt l j) := by
  unfold Lt
  rw [Array.getD_eq_getD_getElem?, Array.getD_eq_getD_getElem?]
  by_cases hij : i = j
  · subst hij
    rw [Array.getElem?_setIfInBounds_self_of_lt h]
    simp
  · rw [Array.getElem?_setIfInBounds_ne hij]
    simp [Ne.symm hij]
theorem ready_at {l : Array Bool} {i : Nat} (h : i ∈ Region.ready md ops l) : i < ops.size ∧ l[i]? = some false := by
  unfold Region.ready at h
  rw [List.mem_filter, List.mem_range] at h
  obtain ⟨h1, h2⟩ := h
  refine ⟨h1, ?_⟩
  rw [Bool.and_eq_true, Array.getD_eq_getD_getElem?] at h2
  have h3 := h2.1
  cases hl : l[i]? with
  | none => rw [hl] at h3; cases h3
  | some x => rw [hl] at h3; cases x <;> first | rfl | cases h3
theorem ready_not {l : Array Bool} {i : Nat} (h : i ∈ Region.ready md ops l) : ¬ Lt l i := by
  unfold Lt
  rw [Array.getD_eq_getD_getElem?, (ready_at h).2]
  exact Bool.false_ne_true
/-- Does operation i wait for operation d? -/
def depB (md : Region.Mode) (ops : Array Oper) (i d : Nat) : Bool :=
  match ops[i]? with
  | some o => o.after.any fun e => Region.binds md e && e.on == d
  | none => false
theorem ready_dep {l : Array Bool} {i d : Nat} (h : i ∈ Region.ready md ops l) (hd : depB md ops i d = true) : Lt l d := by
  unfold Region.ready at h
  rw [List.mem_filter] at h
  have h2 := h.2
  rw [Bool.and_eq_true] at h2
  have h3 := h2.2
  unfold depB at hd
  cases ho : ops[i]? with
  | none => rw [ho] at hd; cases hd
  | some o =>
    rw [ho] at hd h3
    simp only [Option.map_some, Option.getD_some] at h3
    obtain ⟨e, he, hb⟩ := Array.any_eq_true'.1 hd
    rw [Bool.and_eq_true, beq_iff_eq] at hb
    have := Array.all_eq_true'.1 h3 e he
    rw [hb.1, hb.2] at this
    unfold Lt
    simpa using this
/-- Each operation waits for earlier ones alone. -/
def backB (ops : Array Oper) : Bool := (List.range ops.size).all fun i => ((ops[i]?).map fun o => o.after.all fun e => decide (e.on < i)).getD true
theorem ready_nil {l : Array Bool} (h : Region.ready md ops l = []) (hs : l.size = ops.size) (hb : backB ops = true) : ∀ i, i < ops.size → Lt l i := by
  intro i
  induction i using Nat.strongRecOn with
  | ind i ih =>
    intro hi
    refine Classical.byContradiction fun hn => ?_
    have hmem : i ∈ Region.ready md ops l := by
      unfold Region.ready
      rw [List.mem_filter, List.mem_range]
      refine ⟨hi, ?_⟩
      have hli : l[i]? = some l[i] := Array.getElem?_eq_getElem (by omega)
      have hf : l[i] = false := by
        unfold Lt at hn
        rw [Array.getD_eq_getD_getElem?, hli] at hn
        simpa using hn
      rw [Bool.and_eq_true]
      refine ⟨by rw [Array.getD_eq_getD_getElem?, hli, hf]; rfl, ?_⟩
      have ho : ops[i]? = some ops[i] := Array.getElem?_eq_getElem hi
      unfold backB at hb
      have hbi := List.all_eq_true.1 hb i (List.mem_range.2 hi)
      rw [ho] at hbi ⊢
      simp only [Option.map_some, Option.getD_some] at hbi ⊢
      refine Array.all_eq_true'.2 fun e he => ?_
      have h1 := of_decide_eq_true (Array.all_eq_true'.1 hbi e he)
      have h2 := ih e.on h1 (by omega)
      unfold Lt at h2
      rw [h2, Bool.or_true]
    rw [h] at hmem
    cases hmem
theorem count_set : ∀ (l : List Bool) (i : Nat), l[i]? = some false → (l.set i true).count false + 1 = l.count false
  | [], _, h => by cases h
  | a :: r, 0, h => by
    cases h
    simp
  | a :: r, i + 1, h => by
    have ih := count_set r i (by simpa using h)
    rw [List.set_cons_succ, List.count_cons, List.count_cons]
    omega
/-- What holds at first, and behind each operation that may come up, holds at the end. -/
theorem wpAny_inv (I : Array Bool → Act → World → Prop)
    (step : ∀ l a w, I l a w → ∀ i, i ∈ Region.ready md ops l → ∀ K : Act → World → Prop, (∀ a' w', I (l.setIfInBounds i true) a' w' → K a' w') → wpOp P ops Q i K a w)
    (fin : ∀ l a w, I l a w → Region.ready md ops l = [] → Q .normal a w) : ∀ (fuel : Nat) (l : Array Bool) (a : Act) (w : World), l.toList.count false ≤ fuel → I l a w → wpAny P md ops Q fuel l a w
  | 0, l, a, w, hc, h => by
    have hr : Region.ready md ops l = [] := by
      refine List.eq_nil_iff_forall_not_mem.2 fun i hi => ?_
      have h1 := (ready_at hi).2
      rw [← Array.getElem?_toList] at h1
      have := count_set _ _ h1
      omega
    exact ⟨hr, fin _ _ _ h hr⟩
  | fuel + 1, l, a, w, hc, h => ⟨fun hr => fin _ _ _ h hr, fun i hi => step l a w h i hi _ fun a' w' h' => wpAny_inv I step fin fuel _ a' w' (by
      have h1 := (ready_at hi).2
      rw [← Array.getElem?_toList] at h1
      have := count_set _ _ h1
      rw [Array.toList_setIfInBounds]
      omega) h'⟩
end
/-! ### Rows that are kept -/
section
variable {w w' : World} {B e s n : Nat} {v : Value} {xs : List Value}
theorem own_same (h : w.ownsRow B e s v n xs) (hk : ∀ k, v.ownBlock = some k → w'.heap[k]? = w.heap[k]?) : w'.ownsRow B e s v n xs := by
  refine ⟨h.1, ?_⟩
  rcases h.2 with hn | ⟨g, cap, cur, hv, hb, hg, rest⟩
  · exact .inl hn
  · exact .inr ⟨g, cap, cur, hv, hb, (hk g (by rw [hv]; rfl)).trans hg, rest⟩
theorem own_type {k : Nat} (h : w.ownsRow B e s v n xs) (hk : v.ownBlock = some k) : ∃ cur, w.heap[k]? = some (.cells cur e (0, 0)) := by
  rcases h.2 with ⟨hn, _⟩ | ⟨g, cap, cur, hv, hb, hg, _⟩
  · rw [hn] at hk
    cases hk
  · rw [hv] at hk
    cases hk
    exact ⟨cur, hg⟩
theorem own_far {B' e' s' n' : Nat} {v' : Value} {xs' : List Value} (h : w.ownsRow B e s v n xs) (h' : w.ownsRow B' e' s' v' n' xs') (hne : e ≠ e') (k : Nat) (hk : v.ownBlock = some k) : some k ≠ v'.ownBlock := by
  intro hr
  obtain ⟨c1, h1⟩ := own_type h hk
  obtain ⟨c2, h2⟩ := own_type h' hr.symm
  rw [h1] at h2
  cases h2
  exact hne rfl
theorem own_grown {B' e' s' n' : Nat} {v' : Value} {xs' : List Value} (h : w.ownsRow B e s v n xs) (h' : w.ownsRow B' e' s' v' n' xs') (hne : e ≠ e') (hg : w.grownBy w' v'.ownBlock) : w'.ownsRow B e s v n xs :=
  own_same h fun k hk => by
    obtain ⟨cur, hc⟩ := own_type h hk
    exact hg.block k (Array.getElem?_eq_some_iff.1 hc).1 (own_far h h' hne k hk)
theorem blk_grown {B' e' s' n' g : Nat} {v' : Value} {xs' : List Value} {cs : Array Value} (h : w.heap[g]? = some (.cells cs e (0, 0))) (h' : w.ownsRow B' e' s' v' n' xs') (hne : e ≠ e') (hg : w.grownBy w' v'.ownBlock) : w'.heap[g]? = some (.cells cs e (0, 0)) := by
  refine (hg.block g (Array.getElem?_eq_some_iff.1 h).1 fun hr => ?_).trans h
  obtain ⟨c2, h2⟩ := own_type h' hr.symm
  rw [h] at h2
  cases h2
  exact hne rfl
theorem own_set {g i : Nat} {u : Value} {cs : Array Value} {e' : Nat} (h : w.ownsRow B e s v n xs) (hb : w.heap[g]? = some (.cells cs e' (0, 0))) (hne : e ≠ e') : (w.setCell ⟨g, i, none⟩ u).ownsRow B e s v n xs :=
  own_same h fun k hk => by
    obtain ⟨cur, hc⟩ := own_type h hk
    refine Below.heap_setCell _ _ _ _ fun e => ?_
    simp only at e
    subst e
    rw [hc] at hb
    cases hb
    exact hne rfl
theorem blk_alloc {g : Nat} {o o' : Obj} (h : w.heap[g]? = some o) : (w.alloc o').heap[g]? = some o := by
  have hlt := (Array.getElem?_eq_some_iff.1 h).1
  exact (heap_alloc_old w o' hlt).trans h
end

/-- append of whatever slice to a row of the call's own. -/
theorem run_append_any {P : Program} (w : World) (base : Nat) (t ty e : TypeId) (i : TypeInfo) (z : Value) (size bytes : Nat) (ht : P.underlying t = some (.slice e)) (hi : P.info? e = some i) (hz : i.zero = some z)
    (hsize : i.size = size) (hby : i.bytes = bytes) (hzs : z.cells.size = size) (hsz : 0 < size) (v : Value) (n : Nat) (xs : List Value) (hown : w.ownsRow base e size v n xs)
    (sa : Option Addr) (m c : Nat) (news : List Value) (hl : news.length = m * size) (hnews : ∀ ad, sa = some ad → ∀ j u, news[j]? = some u → w.cell? (ad.add j) = some u) (h1 : ∀ u ∈ news, u.oneCell' = true)
    (hnone : sa = none → m = 0 ∧ c = 0) (h63 : n + m ≤ maxLen) (hbytes : (n + m) * bytes ≤ 140737488355328) (hbase : base ≤ w.heap.size) :
    ∃ v' w', (Builtin.append_ #[t, t] ty #[v, .slice sa m c]).run P w = .ok v' w' ∧ w'.ownsRow base e size v' (n + m) (xs ++ news) ∧ w.grownBy w' v.ownBlock := by
  cases sa with
  | some a =>
    obtain ⟨v', w', h2, h3, h4, _⟩ := run_append_own_at (P := P) w base t ty e i z size bytes ht hi hz hsize hby hzs hsz v n xs hown a m c news hl (hnews a rfl) h1 h63 hbytes hbase
    exact ⟨v', w', h2, h3, h4⟩
  | none =>
    obtain ⟨rfl, rfl⟩ := hnone rfl
    have hn : news = [] := List.eq_nil_of_length_eq_zero (by rw [hl, Nat.zero_mul])
    subst hn
    refine ⟨v, w, run_append_owned_none (P := P) (w := w) base t ty e i size ht hi v n xs hown, by rw [List.append_nil]; exact hown, ⟨rfl, rfl, rfl, Nat.le_refl _, fun _ _ _ => rfl⟩⟩
theorem varsC_length : ∀ vs : List (ByteArray × Int), (varsC vs).length = vs.length * 2
  | [] => rfl
  | t :: r => by
    have := varsC_length r
    unfold varsC at *
    rw [List.flatMap_cons, List.length_append, this]
    simp [varC]; omega
theorem vars_news {w : World} {va : Option Addr} {vs : List (ByteArray × Int)} (h : VarsAt w va vs) : ∀ ad, va = some ad → ∀ j u, (varsC vs)[j]? = some u → w.cell? (ad.add j) = some u := by
  intro ad hv j u hu
  have hj : j < vs.length * 2 := by rw [← varsC_length]; exact (List.getElem?_eq_some_iff.1 hu).1
  obtain ⟨g, o, e, _, hc⟩ := h (by omega)
  rw [hv] at e
  cases e
  obtain ⟨c1, c2⟩ := hc (j / 2) (by omega)
  have hat := fun k hk => varsC_at vs (j / 2) (by omega) k hk
  rw [add_plain]
  rcases Nat.mod_two_eq_zero_or_one j with h0 | h0
  · have e : j = j / 2 * 2 + 0 := by omega
    rw [e, hat 0 (by omega)] at hu
    rw [e, Nat.add_zero, c1]
    exact hu
  · have e : j = j / 2 * 2 + 1 := by omega
    rw [e, hat 1 (by omega)] at hu
    rw [e, ← Nat.add_assoc, c2]
    exact hu
theorem vars_one {vs : List (ByteArray × Int)} : ∀ u ∈ varsC vs, u.oneCell' = true := by
  intro u hu
  unfold varsC at hu
  obtain ⟨v, _, hv⟩ := List.mem_flatMap.1 hu
  simp only [varC, List.mem_cons, List.not_mem_nil, or_false] at hv
  rcases hv with rfl | rfl <;> rfl
theorem varsC_app (vs ws : List (ByteArray × Int)) : varsC (vs ++ ws) = varsC vs ++ varsC ws := by
  unfold varsC
  rw [List.flatMap_append]
def strsC (ss : List ByteArray) : List Value := ss.map fun s => .string s
theorem strs_news {w : World} {sa : Option Addr} {ss : List ByteArray} (h : StrsAt w sa ss) : ∀ ad, sa = some ad → ∀ j u, (strsC ss)[j]? = some u → w.cell? (ad.add j) = some u := by
  intro ad hv j u hu
  have hj : j < ss.length := by have := (List.getElem?_eq_some_iff.1 hu).1; unfold strsC at this; rwa [List.length_map] at this
  obtain ⟨g, o, e, _, hc⟩ := h (by omega)
  rw [hv] at e
  cases e
  rw [add_plain, hc j hj, ← hu]
  unfold strsC
  rw [List.getElem?_map, List.getElem?_eq_getElem hj]
  rfl
theorem strs_one {ss : List ByteArray} : ∀ u ∈ strsC ss, u.oneCell' = true := by
  intro u hu
  obtain ⟨s, _, rfl⟩ := List.mem_map.1 hu
  rfl
theorem strs_own {w : World} {B cap : Nat} {e : TypeId} {na : Option Addr} {ss : List ByteArray} (h : w.ownsRow B e 1 (.slice na ss.length cap) ss.length (strsC ss)) : StrsAt w na ss := by
  intro h0
  rcases h.2 with ⟨_, hn⟩ | ⟨g, cap', cur, hv, hb, hg, _⟩
  · omega
  · cases hv
    have hc := h.cells (g := g) rfl
    refine ⟨g, 0, rfl, (Array.getElem?_eq_some_iff.1 hg).1, fun i hi => ?_⟩
    have := hc i (.string ss[i]) (by unfold strsC; rw [List.getElem?_map, List.getElem?_eq_getElem hi]; rfl)
    rwa [add_plain] at this

/-! ### The region -/
/-- What its slots hold. -/
structure S13 where
  x15 : Value
  x68 : Value
  x69 : Value
  x70 : Value
  x71 : Value
  x72 : Value
  x73 : Value
  x74 : Value
  x75 : Value
  x76 : Value
  x77 : Value
  x78 : Value
  x79 : Value
  x80 : Value
  x81 : Value
  x82 : Value

/-- What holds behind the operations of a set. -/
structure J13 (w0 : World) (b : Nat) (va : Option Addr) (vc : Nat) (vs : List (ByteArray × Int)) (wa : Option Addr) (wc : Nat) (ws : List (ByteArray × Int)) (sa : Option Addr) (sc : Nat) (ss : List ByteArray) (ta : Option Addr) (tc : Nat) (ts : List ByteArray) (l : Array Bool) (x : S13) (w : World) : Prop where
  size : l.size = 17
  below : Below w0.heap.size w0 w
  f1 : Lt l 1 → x.x69 = .pointer (some ⟨b, 0, none⟩)
  f2 : Lt l 2 → x.x70 = .slice va vs.length vc
  f4 : Lt l 4 → x.x72 = .pointer (some ⟨b + 1, 0, none⟩)
  f5 : Lt l 5 → x.x73 = .slice wa ws.length wc
  f8 : Lt l 8 → x.x76 = .pointer (some ⟨b, 1, none⟩)
  f9 : Lt l 9 → x.x77 = .slice sa ss.length sc
  f11 : Lt l 11 → x.x79 = .pointer (some ⟨b + 1, 1, none⟩)
  f12 : Lt l 12 → x.x80 = .slice ta ts.length tc
  f0 : Lt l 0 → ¬ Lt l 3 → w.ownsRow w0.heap.size 46 2 x.x68 0 []
  f3 : Lt l 3 → ¬ Lt l 6 → w.ownsRow w0.heap.size 46 2 x.x71 vs.length (varsC vs)
  f6 : Lt l 6 → w.ownsRow w0.heap.size 46 2 x.x74 (vs.length + ws.length) (varsC vs ++ varsC ws)
  d6 : Lt l 6 → Lt l 3
  f7 : Lt l 7 → ¬ Lt l 10 → w.ownsRow w0.heap.size 9 1 x.x75 0 []
  f10 : Lt l 10 → ¬ Lt l 13 → w.ownsRow w0.heap.size 9 1 x.x78 ss.length (strsC ss)
  f13 : Lt l 13 → w.ownsRow w0.heap.size 9 1 x.x81 (ss.length + ts.length) (strsC ss ++ strsC ts)
  d13 : Lt l 13 → Lt l 10
  f14 : Lt l 14 → x.x82 = .agg #[x.x74, x.x81]
  d14 : Lt l 14 → Lt l 6 ∧ Lt l 13
  f15 : Lt l 15 → ∃ g, x.x15 = .pointer (some ⟨g, 0, none⟩) ∧ w0.heap.size ≤ g ∧ ∃ u v, w.heap[g]? = some (.cells #[u, v] 25 (0, 0))
  f16 : Lt l 16 → ∃ g, x.x15 = .pointer (some ⟨g, 0, none⟩) ∧ w0.heap.size ≤ g ∧ w.heap[g]? = some (.cells #[x.x74, x.x81] 25 (0, 0))
  d16 : Lt l 16 → Lt l 14 ∧ Lt l 15
section
variable {w0 : World} {b : Nat} {va : Option Addr} {vc : Nat} {vs : List (ByteArray × Int)} {wa : Option Addr} {wc : Nat} {ws : List (ByteArray × Int)} {sa : Option Addr} {sc : Nat} {ss : List ByteArray} {ta : Option Addr} {tc : Nat} {ts : List ByteArray} {l : Array Bool} {x : S13} {w w' : World} {v' : Value}

theorem j13_1 (J : J13 w0 b va vc vs wa wc ws sa sc ss ta tc ts l x w) (_un : ¬ Lt l 1) : J13 w0 b va vc vs wa wc ws sa sc ss ta tc ts (l.setIfInBounds 1 true) { x with x69 := .pointer (some ⟨b, 0, none⟩) } w := by
  have hi : 1 < l.size := by rw [J.size]; decide
  have up := fun j (h : Lt l j) => (lt_set hi j).2 (.inr h)
  have me : Lt (l.setIfInBounds 1 true) 1 := (lt_set hi 1).2 (.inl rfl)
  have dn := fun j (h : Lt (l.setIfInBounds 1 true) j) (hne : j ≠ 1) => ((lt_set hi j).1 h).resolve_left hne
  exact {
    size := by rw [Array.size_setIfInBounds]; exact J.size
    below := J.below
    f1 := fun h => rfl
    f2 := fun h => J.f2 (dn 2 h (by decide))
    f4 := fun h => J.f4 (dn 4 h (by decide))
    f5 := fun h => J.f5 (dn 5 h (by decide))
    f8 := fun h => J.f8 (dn 8 h (by decide))
    f9 := fun h => J.f9 (dn 9 h (by decide))
    f11 := fun h => J.f11 (dn 11 h (by decide))
    f12 := fun h => J.f12 (dn 12 h (by decide))
    f0 := fun h hn => (J.f0 (dn 0 h (by decide)) (fun k => hn (up 3 k)))
    f3 := fun h hn => (J.f3 (dn 3 h (by decide)) (fun k => hn (up 6 k)))
    f6 := fun h => (J.f6 (dn 6 h (by decide)))
    f7 := fun h hn => (J.f7 (dn 7 h (by decide)) (fun k => hn (up 10 k)))
    f10 := fun h hn => (J.f10 (dn 10 h (by decide)) (fun k => hn (up 13 k)))
    f13 := fun h => (J.f13 (dn 13 h (by decide)))
    d6 := fun h => up 3 (J.d6 (dn 6 h (by decide)))
    d13 := fun h => up 10 (J.d13 (dn 13 h (by decide)))
    f14 := fun h => J.f14 (dn 14 h (by decide))
    d14 := fun h => ⟨up 6 (J.d14 (dn 14 h (by decide))).1, up 13 (J.d14 (dn 14 h (by decide))).2⟩
    f15 := fun h => J.f15 (dn 15 h (by decide))
    f16 := fun h => J.f16 (dn 16 h (by decide))
    d16 := fun h => ⟨up 14 (J.d16 (dn 16 h (by decide))).1, up 15 (J.d16 (dn 16 h (by decide))).2⟩ }
theorem j13_2 (J : J13 w0 b va vc vs wa wc ws sa sc ss ta tc ts l x w) (_un : ¬ Lt l 2) : J13 w0 b va vc vs wa wc ws sa sc ss ta tc ts (l.setIfInBounds 2 true) { x with x70 := .slice va vs.length vc } w := by
  have hi : 2 < l.size := by rw [J.size]; decide
  have up := fun j (h : Lt l j) => (lt_set hi j).2 (.inr h)
  have me : Lt (l.setIfInBounds 2 true) 2 := (lt_set hi 2).2 (.inl rfl)
  have dn := fun j (h : Lt (l.setIfInBounds 2 true) j) (hne : j ≠ 2) => ((lt_set hi j).1 h).resolve_left hne
  exact {
    size := by rw [Array.size_setIfInBounds]; exact J.size
    below := J.below
    f1 := fun h => J.f1 (dn 1 h (by decide))
    f2 := fun h => rfl
    f4 := fun h => J.f4 (dn 4 h (by decide))
    f5 := fun h => J.f5 (dn 5 h (by decide))
    f8 := fun h => J.f8 (dn 8 h (by decide))
    f9 := fun h => J.f9 (dn 9 h (by decide))
    f11 := fun h => J.f11 (dn 11 h (by decide))
    f12 := fun h => J.f12 (dn 12 h (by decide))
    f0 := fun h hn => (J.f0 (dn 0 h (by decide)) (fun k => hn (up 3 k)))
    f3 := fun h hn => (J.f3 (dn 3 h (by decide)) (fun k => hn (up 6 k)))
    f6 := fun h => (J.f6 (dn 6 h (by decide)))
    f7 := fun h hn => (J.f7 (dn 7 h (by decide)) (fun k => hn (up 10 k)))
    f10 := fun h hn => (J.f10 (dn 10 h (by decide)) (fun k => hn (up 13 k)))
    f13 := fun h => (J.f13 (dn 13 h (by decide)))
    d6 := fun h => up 3 (J.d6 (dn 6 h (by decide)))
    d13 := fun h => up 10 (J.d13 (dn 13 h (by decide)))
    f14 := fun h => J.f14 (dn 14 h (by decide))
    d14 := fun h => ⟨up 6 (J.d14 (dn 14 h (by decide))).1, up 13 (J.d14 (dn 14 h (by decide))).2⟩
    f15 := fun h => J.f15 (dn 15 h (by decide))
    f16 := fun h => J.f16 (dn 16 h (by decide))
    d16 := fun h => ⟨up 14 (J.d16 (dn 16 h (by decide))).1, up 15 (J.d16 (dn 16 h (by decide))).2⟩ }
theorem j13_4 (J : J13 w0 b va vc vs wa wc ws sa sc ss ta tc ts l x w) (_un : ¬ Lt l 4) : J13 w0 b va vc vs wa wc ws sa sc ss ta tc ts (l.setIfInBounds 4 true) { x with x72 := .pointer (some ⟨b + 1, 0, none⟩) } w := by
  have hi : 4 < l.size := by rw [J.size]; decide
  have up := fun j (h : Lt l j) => (lt_set hi j).2 (.inr h)
  have me : Lt (l.setIfInBounds 4 true) 4 := (lt_set hi 4).2 (.inl rfl)
  have dn := fun j (h : Lt (l.setIfInBounds 4 true) j) (hne : j ≠ 4) => ((lt_set hi j).1 h).resolve_left hne
  exact {
    size := by rw [Array.size_setIfInBounds]; exact J.size
    below := J.below
    f1 := fun h => J.f1 (dn 1 h (by decide))
    f2 := fun h => J.f2 (dn 2 h (by decide))
    f4 := fun h => rfl
    f5 := fun h => J.f5 (dn 5 h (by decide))
    f8 := fun h => J.f8 (dn 8 h (by decide))
    f9 := fun h => J.f9 (dn 9 h (by decide))
    f11 := fun h => J.f11 (dn 11 h (by decide))
    f12 := fun h => J.f12 (dn 12 h (by decide))
    f0 := fun h hn => (J.f0 (dn 0 h (by decide)) (fun k => hn (up 3 k)))
    f3 := fun h hn => (J.f3 (dn 3 h (by decide)) (fun k => hn (up 6 k)))
    f6 := fun h => (J.f6 (dn 6 h (by decide)))
    f7 := fun h hn => (J.f7 (dn 7 h (by decide)) (fun k => hn (up 10 k)))
    f10 := fun h hn => (J.f10 (dn 10 h (by decide)) (fun k => hn (up 13 k)))
    f13 := fun h => (J.f13 (dn 13 h (by decide)))
    d6 := fun h => up 3 (J.d6 (dn 6 h (by decide)))
    d13 := fun h => up 10 (J.d13 (dn 13 h (by decide)))
    f14 := fun h => J.f14 (dn 14 h (by decide))
    d14 := fun h => ⟨up 6 (J.d14 (dn 14 h (by decide))).1, up 13 (J.d14 (dn 14 h (by decide))).2⟩
    f15 := fun h => J.f15 (dn 15 h (by decide))
    f16 := fun h => J.f16 (dn 16 h (by decide))
    d16 := fun h => ⟨up 14 (J.d16 (dn 16 h (by decide))).1, up 15 (J.d16 (dn 16 h (by decide))).2⟩ }
theorem j13_5 (J : J13 w0 b va vc vs wa wc ws sa sc ss ta tc ts l x w) (_un : ¬ Lt l 5) : J13 w0 b va vc vs wa wc ws sa sc ss ta tc ts (l.setIfInBounds 5 true) { x with x73 := .slice wa ws.length wc } w := by
  have hi : 5 < l.size := by rw [J.size]; decide
  have up := fun j (h : Lt l j) => (lt_set hi j).2 (.inr h)
  have me : Lt (l.setIfInBounds 5 true) 5 := (lt_set hi 5).2 (.inl rfl)
  have dn := fun j (h : Lt (l.setIfInBounds 5 true) j) (hne : j ≠ 5) => ((lt_set hi j).1 h).resolve_left hne
  exact {
    size := by rw [Array.size_setIfInBounds]; exact J.size
    below := J.below
    f1 := fun h => J.f1 (dn 1 h (by decide))
    f2 := fun h => J.f2 (dn 2 h (by decide))
    f4 := fun h => J.f4 (dn 4 h (by decide))
    f5 := fun h => rfl
    f8 := fun h => J.f8 (dn 8 h (by decide))
    f9 := fun h => J.f9 (dn 9 h (by decide))
    f11 := fun h => J.f11 (dn 11 h (by decide))
    f12 := fun h => J.f12 (dn 12 h (by decide))
    f0 := fun h hn => (J.f0 (dn 0 h (by decide)) (fun k => hn (up 3 k)))
    f3 := fun h hn => (J.f3 (dn 3 h (by decide)) (fun k => hn (up 6 k)))
    f6 := fun h => (J.f6 (dn 6 h (by decide)))
    f7 := fun h hn => (J.f7 (dn 7 h (by decide)) (fun k => hn (up 10 k)))
    f10 := fun h hn => (J.f10 (dn 10 h (by decide)) (fun k => hn (up 13 k)))
    f13 := fun h => (J.f13 (dn 13 h (by decide)))
    d6 := fun h => up 3 (J.d6 (dn 6 h (by decide)))
    d13 := fun h => up 10 (J.d13 (dn 13 h (by decide)))
    f14 := fun h => J.f14 (dn 14 h (by decide))
    d14 := fun h => ⟨up 6 (J.d14 (dn 14 h (by decide))).1, up 13 (J.d14 (dn 14 h (by decide))).2⟩
    f15 := fun h => J.f15 (dn 15 h (by decide))
    f16 := fun h => J.f16 (dn 16 h (by decide))
    d16 := fun h => ⟨up 14 (J.d16 (dn 16 h (by decide))).1, up 15 (J.d16 (dn 16 h (by decide))).2⟩ }
theorem j13_8 (J : J13 w0 b va vc vs wa wc ws sa sc ss ta tc ts l x w) (_un : ¬ Lt l 8) : J13 w0 b va vc vs wa wc ws sa sc ss ta tc ts (l.setIfInBounds 8 true) { x with x76 := .pointer (some ⟨b, 1, none⟩) } w := by
  have hi : 8 < l.size := by rw [J.size]; decide
  have up := fun j (h : Lt l j) => (lt_set hi j).2 (.inr h)
  have me : Lt (l.setIfInBounds 8 true) 8 := (lt_set hi 8).2 (.inl rfl)
  have dn := fun j (h : Lt (l.setIfInBounds 8 true) j) (hne : j ≠ 8) => ((lt_set hi j).1 h).resolve_left hne
  exact {
    size := by rw [Array.size_setIfInBounds]; exact J.size
    below := J.below
    f1 := fun h => J.f1 (dn 1 h (by decide))
    f2 := fun h => J.f2 (dn 2 h (by decide))
    f4 := fun h => J.f4 (dn 4 h (by decide))
    f5 := fun h => J.f5 (dn 5 h (by decide))
    f8 := fun h => rfl
    f9 := fun h => J.f9 (dn 9 h (by decide))
    f11 := fun h => J.f11 (dn 11 h (by decide))
    f12 := fun h => J.f12 (dn 12 h (by decide))
    f0 := fun h hn => (J.f0 (dn 0 h (by decide)) (fun k => hn (up 3 k)))
    f3 := fun h hn => (J.f3 (dn 3 h (by decide)) (fun k => hn (up 6 k)))
    f6 := fun h => (J.f6 (dn 6 h (by decide)))
    f7 := fun h hn => (J.f7 (dn 7 h (by decide)) (fun k => hn (up 10 k)))
    f10 := fun h hn => (J.f10 (dn 10 h (by decide)) (fun k => hn (up 13 k)))
    f13 := fun h => (J.f13 (dn 13 h (by decide)))
    d6 := fun h => up 3 (J.d6 (dn 6 h (by decide)))
    d13 := fun h => up 10 (J.d13 (dn 13 h (by decide)))
    f14 := fun h => J.f14 (dn 14 h (by decide))
    d14 := fun h => ⟨up 6 (J.d14 (dn 14 h (by decide))).1, up 13 (J.d14 (dn 14 h (by decide))).2⟩
    f15 := fun h => J.f15 (dn 15 h (by decide))
    f16 := fun h => J.f16 (dn 16 h (by decide))
    d16 := fun h => ⟨up 14 (J.d16 (dn 16 h (by decide))).1, up 15 (J.d16 (dn 16 h (by decide))).2⟩ }
theorem j13_9 (J : J13 w0 b va vc vs wa wc ws sa sc ss ta tc ts l x w) (_un : ¬ Lt l 9) : J13 w0 b va vc vs wa wc ws sa sc ss ta tc ts (l.setIfInBounds 9 true) { x with x77 := .slice sa ss.length sc } w := by
  have hi : 9 < l.size := by rw [J.size]; decide
  have up := fun j (h : Lt l j) => (lt_set hi j).2 (.inr h)
  have me : Lt (l.setIfInBounds 9 true) 9 := (lt_set hi 9).2 (.inl rfl)
  have dn := fun j (h : Lt (l.setIfInBounds 9 true) j) (hne : j ≠ 9) => ((lt_set hi j).1 h).resolve_left hne
  exact {
    size := by rw [Array.size_setIfInBounds]; exact J.size
    below := J.below
    f1 := fun h => J.f1 (dn 1 h (by decide))
    f2 := fun h => J.f2 (dn 2 h (by decide))
    f4 := fun h => J.f4 (dn 4 h (by decide))
    f5 := fun h => J.f5 (dn 5 h (by decide))
    f8 := fun h => J.f8 (dn 8 h (by decide))
    f9 := fun h => rfl
    f11 := fun h => J.f11 (dn 11 h (by decide))
    f12 := fun h => J.f12 (dn 12 h (by decide))
    f0 := fun h hn => (J.f0 (dn 0 h (by decide)) (fun k => hn (up 3 k)))
    f3 := fun h hn => (J.f3 (dn 3 h (by decide)) (fun k => hn (up 6 k)))
    f6 := fun h => (J.f6 (dn 6 h (by decide)))
    f7 := fun h hn => (J.f7 (dn 7 h (by decide)) (fun k => hn (up 10 k)))
    f10 := fun h hn => (J.f10 (dn 10 h (by decide)) (fun k => hn (up 13 k)))
    f13 := fun h => (J.f13 (dn 13 h (by decide)))
    d6 := fun h => up 3 (J.d6 (dn 6 h (by decide)))
    d13 := fun h => up 10 (J.d13 (dn 13 h (by decide)))
    f14 := fun h => J.f14 (dn 14 h (by decide))
    d14 := fun h => ⟨up 6 (J.d14 (dn 14 h (by decide))).1, up 13 (J.d14 (dn 14 h (by decide))).2⟩
    f15 := fun h => J.f15 (dn 15 h (by decide))
    f16 := fun h => J.f16 (dn 16 h (by decide))
    d16 := fun h => ⟨up 14 (J.d16 (dn 16 h (by decide))).1, up 15 (J.d16 (dn 16 h (by decide))).2⟩ }
theorem j13_11 (J : J13 w0 b va vc vs wa wc ws sa sc ss ta tc ts l x w) (_un : ¬ Lt l 11) : J13 w0 b va vc vs wa wc ws sa sc ss ta tc ts (l.setIfInBounds 11 true) { x with x79 := .pointer (some ⟨b + 1, 1, none⟩) } w := by
  have hi : 11 < l.size := by rw [J.size]; decide
  have up := fun j (h : Lt l j) => (lt_set hi j).2 (.inr h)
  have me : Lt (l.setIfInBounds 11 true) 11 := (lt_set hi 11).2 (.inl rfl)
  have dn := fun j (h : Lt (l.setIfInBounds 11 true) j) (hne : j ≠ 11) => ((lt_set hi j).1 h).resolve_left hne
  exact {
    size := by rw [Array.size_setIfInBounds]; exact J.size
    below := J.below
    f1 := fun h => J.f1 (dn 1 h (by decide))
    f2 := fun h => J.f2 (dn 2 h (by decide))
    f4 := fun h => J.f4 (dn 4 h (by decide))
    f5 := fun h => J.f5 (dn 5 h (by decide))
    f8 := fun h => J.f8 (dn 8 h (by decide))
    f9 := fun h => J.f9 (dn 9 h (by decide))
    f11 := fun h => rfl
    f12 := fun h => J.f12 (dn 12 h (by decide))
    f0 := fun h hn => (J.f0 (dn 0 h (by decide)) (fun k => hn (up 3 k)))
    f3 := fun h hn => (J.f3 (dn 3 h (by decide)) (fun k => hn (up 6 k)))
    f6 := fun h => (J.f6 (dn 6 h (by decide)))
    f7 := fun h hn => (J.f7 (dn 7 h (by decide)) (fun k => hn (up 10 k)))
    f10 := fun h hn => (J.f10 (dn 10 h (by decide)) (fun k => hn (up 13 k)))
    f13 := fun h => (J.f13 (dn 13 h (by decide)))
    d6 := fun h => up 3 (J.d6 (dn 6 h (by decide)))
    d13 := fun h => up 10 (J.d13 (dn 13 h (by decide)))
    f14 := fun h => J.f14 (dn 14 h (by decide))
    d14 := fun h => ⟨up 6 (J.d14 (dn 14 h (by decide))).1, up 13 (J.d14 (dn 14 h (by decide))).2⟩
    f15 := fun h => J.f15 (dn 15 h (by decide))
    f16 := fun h => J.f16 (dn 16 h (by decide))
    d16 := fun h => ⟨up 14 (J.d16 (dn 16 h (by decide))).1, up 15 (J.d16 (dn 16 h (by decide))).2⟩ }
theorem j13_12 (J : J13 w0 b va vc vs wa wc ws sa sc ss ta tc ts l x w) (_un : ¬ Lt l 12) : J13 w0 b va vc vs wa wc ws sa sc ss ta tc ts (l.setIfInBounds 12 true) { x with x80 := .slice ta ts.length tc } w := by
  have hi : 12 < l.size := by rw [J.size]; decide
  have up := fun j (h : Lt l j) => (lt_set hi j).2 (.inr h)
  have me : Lt (l.setIfInBounds 12 true) 12 := (lt_set hi 12).2 (.inl rfl)
  have dn := fun j (h : Lt (l.setIfInBounds 12 true) j) (hne : j ≠ 12) => ((lt_set hi j).1 h).resolve_left hne
  exact {
    size := by rw [Array.size_setIfInBounds]; exact J.size
    below := J.below
    f1 := fun h => J.f1 (dn 1 h (by decide))
    f2 := fun h => J.f2 (dn 2 h (by decide))
    f4 := fun h => J.f4 (dn 4 h (by decide))
    f5 := fun h => J.f5 (dn 5 h (by decide))
    f8 := fun h => J.f8 (dn 8 h (by decide))
    f9 := fun h => J.f9 (dn 9 h (by decide))
    f11 := fun h => J.f11 (dn 11 h (by decide))
    f12 := fun h => rfl
    f0 := fun h hn => (J.f0 (dn 0 h (by decide)) (fun k => hn (up 3 k)))
    f3 := fun h hn => (J.f3 (dn 3 h (by decide)) (fun k => hn (up 6 k)))
    f6 := fun h => (J.f6 (dn 6 h (by decide)))
    f7 := fun h hn => (J.f7 (dn 7 h (by decide)) (fun k => hn (up 10 k)))
    f10 := fun h hn => (J.f10 (dn 10 h (by decide)) (fun k => hn (up 13 k)))
    f13 := fun h => (J.f13 (dn 13 h (by decide)))
    d6 := fun h => up 3 (J.d6 (dn 6 h (by decide)))
    d13 := fun h => up 10 (J.d13 (dn 13 h (by decide)))
    f14 := fun h => J.f14 (dn 14 h (by decide))
    d14 := fun h => ⟨up 6 (J.d14 (dn 14 h (by decide))).1, up 13 (J.d14 (dn 14 h (by decide))).2⟩
    f15 := fun h => J.f15 (dn 15 h (by decide))
    f16 := fun h => J.f16 (dn 16 h (by decide))
    d16 := fun h => ⟨up 14 (J.d16 (dn 16 h (by decide))).1, up 15 (J.d16 (dn 16 h (by decide))).2⟩ }
theorem j13_14 (J : J13 w0 b va vc vs wa wc ws sa sc ss ta tc ts l x w) (un : ¬ Lt l 14) (h6 : Lt l 6) (h13 : Lt l 13) : J13 w0 b va vc vs wa wc ws sa sc ss ta tc ts (l.setIfInBounds 14 true) { x with x82 := .agg #[x.x74, x.x81] } w := by
  have hi : 14 < l.size := by rw [J.size]; decide
  have up := fun j (h : Lt l j) => (lt_set hi j).2 (.inr h)
  have me : Lt (l.setIfInBounds 14 true) 14 := (lt_set hi 14).2 (.inl rfl)
  have dn := fun j (h : Lt (l.setIfInBounds 14 true) j) (hne : j ≠ 14) => ((lt_set hi j).1 h).resolve_left hne
  exact {
    size := by rw [Array.size_setIfInBounds]; exact J.size
    below := J.below
    f1 := fun h => J.f1 (dn 1 h (by decide))
    f2 := fun h => J.f2 (dn 2 h (by decide))
    f4 := fun h => J.f4 (dn 4 h (by decide))
    f5 := fun h => J.f5 (dn 5 h (by decide))
    f8 := fun h => J.f8 (dn 8 h (by decide))
    f9 := fun h => J.f9 (dn 9 h (by decide))
    f11 := fun h => J.f11 (dn 11 h (by decide))
    f12 := fun h => J.f12 (dn 12 h (by decide))
    f0 := fun h hn => (J.f0 (dn 0 h (by decide)) (fun k => hn (up 3 k)))
    f3 := fun h hn => (J.f3 (dn 3 h (by decide)) (fun k => hn (up 6 k)))
    f6 := fun h => (J.f6 (dn 6 h (by decide)))
    f7 := fun h hn => (J.f7 (dn 7 h (by decide)) (fun k => hn (up 10 k)))
    f10 := fun h hn => (J.f10 (dn 10 h (by decide)) (fun k => hn (up 13 k)))
    f13 := fun h => (J.f13 (dn 13 h (by decide)))
    d6 := fun h => up 3 (J.d6 (dn 6 h (by decide)))
    d13 := fun h => up 10 (J.d13 (dn 13 h (by decide)))
    f14 := fun h => rfl
    d14 := fun h => ⟨up 6 h6, up 13 h13⟩
    f15 := fun h => J.f15 (dn 15 h (by decide))
    f16 := fun h => absurd (J.d16 (dn 16 h (by decide))).1 un
    d16 := fun h => ⟨up 14 (J.d16 (dn 16 h (by decide))).1, up 15 (J.d16 (dn 16 h (by decide))).2⟩ }
theorem j13_0 (J : J13 w0 b va vc vs wa wc ws sa sc ss ta tc ts l x w) (_un : ¬ Lt l 0) : J13 w0 b va vc vs wa wc ws sa sc ss ta tc ts (l.setIfInBounds 0 true) { x with x68 := .slice (some ⟨w.heap.size, 0, none⟩) 0 0 } (w.alloc (.cells #[] 46)) := by
  have hi : 0 < l.size := by rw [J.size]; decide
  have up := fun j (h : Lt l j) => (lt_set hi j).2 (.inr h)
  have me : Lt (l.setIfInBounds 0 true) 0 := (lt_set hi 0).2 (.inl rfl)
  have dn := fun j (h : Lt (l.setIfInBounds 0 true) j) (hne : j ≠ 0) => ((lt_set hi j).1 h).resolve_left hne
  exact {
    size := by rw [Array.size_setIfInBounds]; exact J.size
    below := J.below.alloc J.below.size _
    f1 := fun h => J.f1 (dn 1 h (by decide))
    f2 := fun h => J.f2 (dn 2 h (by decide))
    f4 := fun h => J.f4 (dn 4 h (by decide))
    f5 := fun h => J.f5 (dn 5 h (by decide))
    f8 := fun h => J.f8 (dn 8 h (by decide))
    f9 := fun h => J.f9 (dn 9 h (by decide))
    f11 := fun h => J.f11 (dn 11 h (by decide))
    f12 := fun h => J.f12 (dn 12 h (by decide))
    f0 := fun _ _ => World.ownsRow_lit w #[] 0 J.below.size (Nat.zero_le _) (by simp)
    f3 := fun h hn => (J.f3 (dn 3 h (by decide)) (fun k => hn (up 6 k))).alloc _
    f6 := fun h => (J.f6 (dn 6 h (by decide))).alloc _
    f7 := fun h hn => (J.f7 (dn 7 h (by decide)) (fun k => hn (up 10 k))).alloc _
    f10 := fun h hn => (J.f10 (dn 10 h (by decide)) (fun k => hn (up 13 k))).alloc _
    f13 := fun h => (J.f13 (dn 13 h (by decide))).alloc _
    d6 := fun h => up 3 (J.d6 (dn 6 h (by decide)))
    d13 := fun h => up 10 (J.d13 (dn 13 h (by decide)))
    f14 := fun h => J.f14 (dn 14 h (by decide))
    d14 := fun h => ⟨up 6 (J.d14 (dn 14 h (by decide))).1, up 13 (J.d14 (dn 14 h (by decide))).2⟩
    f15 := fun h => by
        obtain ⟨g, e, hB, u, v, hb⟩ := J.f15 (dn 15 h (by decide))
        exact ⟨g, e, hB, u, v, blk_alloc hb⟩
    f16 := fun h => by
        obtain ⟨g, e, hB, hb⟩ := J.f16 (dn 16 h (by decide))
        exact ⟨g, e, hB, blk_alloc hb⟩
    d16 := fun h => ⟨up 14 (J.d16 (dn 16 h (by decide))).1, up 15 (J.d16 (dn 16 h (by decide))).2⟩ }
theorem j13_7 (J : J13 w0 b va vc vs wa wc ws sa sc ss ta tc ts l x w) (_un : ¬ Lt l 7) : J13 w0 b va vc vs wa wc ws sa sc ss ta tc ts (l.setIfInBounds 7 true) { x with x75 := .slice (some ⟨w.heap.size, 0, none⟩) 0 0 } (w.alloc (.cells #[] 9)) := by
  have hi : 7 < l.size := by rw [J.size]; decide
  have up := fun j (h : Lt l j) => (lt_set hi j).2 (.inr h)
  have me : Lt (l.setIfInBounds 7 true) 7 := (lt_set hi 7).2 (.inl rfl)
  have dn := fun j (h : Lt (l.setIfInBounds 7 true) j) (hne : j ≠ 7) => ((lt_set hi j).1 h).resolve_left hne
  exact {
    size := by rw [Array.size_setIfInBounds]; exact J.size
    below := J.below.alloc J.below.size _
    f1 := fun h => J.f1 (dn 1 h (by decide))
    f2 := fun h => J.f2 (dn 2 h (by decide))
    f4 := fun h => J.f4 (dn 4 h (by decide))
    f5 := fun h => J.f5 (dn 5 h (by decide))
    f8 := fun h => J.f8 (dn 8 h (by decide))
    f9 := fun h => J.f9 (dn 9 h (by decide))
    f11 := fun h => J.f11 (dn 11 h (by decide))
    f12 := fun h => J.f12 (dn 12 h (by decide))
    f0 := fun h hn => (J.f0 (dn 0 h (by decide)) (fun k => hn (up 3 k))).alloc _
    f3 := fun h hn => (J.f3 (dn 3 h (by decide)) (fun k => hn (up 6 k))).alloc _
    f6 := fun h => (J.f6 (dn 6 h (by decide))).alloc _
    f7 := fun _ _ => World.ownsRow_lit w #[] 0 J.below.size (Nat.zero_le _) (by simp)
    f10 := fun h hn => (J.f10 (dn 10 h (by decide)) (fun k => hn (up 13 k))).alloc _
    f13 := fun h => (J.f13 (dn 13 h (by decide))).alloc _
    d6 := fun h => up 3 (J.d6 (dn 6 h (by decide)))
    d13 := fun h => up 10 (J.d13 (dn 13 h (by decide)))
    f14 := fun h => J.f14 (dn 14 h (by decide))
    d14 := fun h => ⟨up 6 (J.d14 (dn 14 h (by decide))).1, up 13 (J.d14 (dn 14 h (by decide))).2⟩
    f15 := fun h => by
        obtain ⟨g, e, hB, u, v, hb⟩ := J.f15 (dn 15 h (by decide))
        exact ⟨g, e, hB, u, v, blk_alloc hb⟩
    f16 := fun h => by
        obtain ⟨g, e, hB, hb⟩ := J.f16 (dn 16 h (by decide))
        exact ⟨g, e, hB, blk_alloc hb⟩
    d16 := fun h => ⟨up 14 (J.d16 (dn 16 h (by decide))).1, up 15 (J.d16 (dn 16 h (by decide))).2⟩ }
theorem j13_15 (J : J13 w0 b va vc vs wa wc ws sa sc ss ta tc ts l x w) (un : ¬ Lt l 15) : J13 w0 b va vc vs wa wc ws sa sc ss ta tc ts (l.setIfInBounds 15 true) { x with x15 := .pointer (some ⟨w.heap.size, 0, none⟩) } (w.alloc (.cells #[.slice none 0 0, .slice none 0 0] 25)) := by
  have hi : 15 < l.size := by rw [J.size]; decide
  have up := fun j (h : Lt l j) => (lt_set hi j).2 (.inr h)
  have me : Lt (l.setIfInBounds 15 true) 15 := (lt_set hi 15).2 (.inl rfl)
  have dn := fun j (h : Lt (l.setIfInBounds 15 true) j) (hne : j ≠ 15) => ((lt_set hi j).1 h).resolve_left hne
  exact {
    size := by rw [Array.size_setIfInBounds]; exact J.size
    below := J.below.alloc J.below.size _
    f1 := fun h => J.f1 (dn 1 h (by decide))
    f2 := fun h => J.f2 (dn 2 h (by decide))
    f4 := fun h => J.f4 (dn 4 h (by decide))
    f5 := fun h => J.f5 (dn 5 h (by decide))
    f8 := fun h => J.f8 (dn 8 h (by decide))
    f9 := fun h => J.f9 (dn 9 h (by decide))
    f11 := fun h => J.f11 (dn 11 h (by decide))
    f12 := fun h => J.f12 (dn 12 h (by decide))
    f0 := fun h hn => (J.f0 (dn 0 h (by decide)) (fun k => hn (up 3 k))).alloc _
    f3 := fun h hn => (J.f3 (dn 3 h (by decide)) (fun k => hn (up 6 k))).alloc _
    f6 := fun h => (J.f6 (dn 6 h (by decide))).alloc _
    f7 := fun h hn => (J.f7 (dn 7 h (by decide)) (fun k => hn (up 10 k))).alloc _
    f10 := fun h hn => (J.f10 (dn 10 h (by decide)) (fun k => hn (up 13 k))).alloc _
    f13 := fun h => (J.f13 (dn 13 h (by decide))).alloc _
    d6 := fun h => up 3 (J.d6 (dn 6 h (by decide)))
    d13 := fun h => up 10 (J.d13 (dn 13 h (by decide)))
    f14 := fun h => J.f14 (dn 14 h (by decide))
    d14 := fun h => ⟨up 6 (J.d14 (dn 14 h (by decide))).1, up 13 (J.d14 (dn 14 h (by decide))).2⟩
    f15 := fun h => ⟨w.heap.size, rfl, J.below.size, _, _, heap_alloc_new w _⟩
    f16 := fun h => absurd (J.d16 (dn 16 h (by decide))).2 un
    d16 := fun h => ⟨up 14 (J.d16 (dn 16 h (by decide))).1, up 15 (J.d16 (dn 16 h (by decide))).2⟩ }
theorem j13_3 (J : J13 w0 b va vc vs wa wc ws sa sc ss ta tc ts l x w) (un : ¬ Lt l 3) (dep : Lt l 0) (hown : w'.ownsRow w0.heap.size 46 2 v' vs.length (varsC vs)) (hg : w.grownBy w' x.x68.ownBlock) : J13 w0 b va vc vs wa wc ws sa sc ss ta tc ts (l.setIfInBounds 3 true) { x with x71 := v' } w' := by
  have hi : 3 < l.size := by rw [J.size]; decide
  have up := fun j (h : Lt l j) => (lt_set hi j).2 (.inr h)
  have me : Lt (l.setIfInBounds 3 true) 3 := (lt_set hi 3).2 (.inl rfl)
  have dn := fun j (h : Lt (l.setIfInBounds 3 true) j) (hne : j ≠ 3) => ((lt_set hi j).1 h).resolve_left hne
  have src := J.f0 dep (un)
  exact {
    size := by rw [Array.size_setIfInBounds]; exact J.size
    below := Below.grown J.below hg J.below.size (fun k hk => (src.lt k hk).1)
    f1 := fun h => J.f1 (dn 1 h (by decide))
    f2 := fun h => J.f2 (dn 2 h (by decide))
    f4 := fun h => J.f4 (dn 4 h (by decide))
    f5 := fun h => J.f5 (dn 5 h (by decide))
    f8 := fun h => J.f8 (dn 8 h (by decide))
    f9 := fun h => J.f9 (dn 9 h (by decide))
    f11 := fun h => J.f11 (dn 11 h (by decide))
    f12 := fun h => J.f12 (dn 12 h (by decide))
    f0 := fun _ hn => absurd me hn
    f3 := fun _ hn => hown
    f6 := fun h => absurd (J.d6 (dn 6 h (by decide))) un
    f7 := fun h hn => own_grown (J.f7 (dn 7 h (by decide)) (fun k => hn (up 10 k))) src (by decide) hg
    f10 := fun h hn => own_grown (J.f10 (dn 10 h (by decide)) (fun k => hn (up 13 k))) src (by decide) hg
    f13 := fun h => own_grown (J.f13 (dn 13 h (by decide))) src (by decide) hg
    d6 := fun h => up 3 (J.d6 (dn 6 h (by decide)))
    d13 := fun h => up 10 (J.d13 (dn 13 h (by decide)))
    f14 := fun h => J.f14 (dn 14 h (by decide))
    d14 := fun h => ⟨up 6 (J.d14 (dn 14 h (by decide))).1, up 13 (J.d14 (dn 14 h (by decide))).2⟩
    f15 := fun h => by
        obtain ⟨g, e, hB, u, v, hb⟩ := J.f15 (dn 15 h (by decide))
        exact ⟨g, e, hB, u, v, blk_grown hb src (by decide) hg⟩
    f16 := fun h => by
        obtain ⟨g, e, hB, hb⟩ := J.f16 (dn 16 h (by decide))
        exact ⟨g, e, hB, blk_grown hb src (by decide) hg⟩
    d16 := fun h => ⟨up 14 (J.d16 (dn 16 h (by decide))).1, up 15 (J.d16 (dn 16 h (by decide))).2⟩ }
theorem j13_6 (J : J13 w0 b va vc vs wa wc ws sa sc ss ta tc ts l x w) (un : ¬ Lt l 6) (dep : Lt l 3) (hown : w'.ownsRow w0.heap.size 46 2 v' (vs.length + ws.length) (varsC vs ++ varsC ws)) (hg : w.grownBy w' x.x71.ownBlock) : J13 w0 b va vc vs wa wc ws sa sc ss ta tc ts (l.setIfInBounds 6 true) { x with x74 := v' } w' := by
  have hi : 6 < l.size := by rw [J.size]; decide
  have up := fun j (h : Lt l j) => (lt_set hi j).2 (.inr h)
  have me : Lt (l.setIfInBounds 6 true) 6 := (lt_set hi 6).2 (.inl rfl)
  have dn := fun j (h : Lt (l.setIfInBounds 6 true) j) (hne : j ≠ 6) => ((lt_set hi j).1 h).resolve_left hne
  have src := J.f3 dep (un)
  exact {
    size := by rw [Array.size_setIfInBounds]; exact J.size
    below := Below.grown J.below hg J.below.size (fun k hk => (src.lt k hk).1)
    f1 := fun h => J.f1 (dn 1 h (by decide))
    f2 := fun h => J.f2 (dn 2 h (by decide))
    f4 := fun h => J.f4 (dn 4 h (by decide))
    f5 := fun h => J.f5 (dn 5 h (by decide))
    f8 := fun h => J.f8 (dn 8 h (by decide))
    f9 := fun h => J.f9 (dn 9 h (by decide))
    f11 := fun h => J.f11 (dn 11 h (by decide))
    f12 := fun h => J.f12 (dn 12 h (by decide))
    f0 := fun _ hn => absurd (up 3 dep) hn
    f3 := fun _ hn => absurd me hn
    f6 := fun _ => hown
    f7 := fun h hn => own_grown (J.f7 (dn 7 h (by decide)) (fun k => hn (up 10 k))) src (by decide) hg
    f10 := fun h hn => own_grown (J.f10 (dn 10 h (by decide)) (fun k => hn (up 13 k))) src (by decide) hg
    f13 := fun h => own_grown (J.f13 (dn 13 h (by decide))) src (by decide) hg
    d6 := fun h => up 3 dep
    d13 := fun h => up 10 (J.d13 (dn 13 h (by decide)))
    f14 := fun h => absurd (J.d14 (dn 14 h (by decide))).1 un
    d14 := fun h => ⟨up 6 (J.d14 (dn 14 h (by decide))).1, up 13 (J.d14 (dn 14 h (by decide))).2⟩
    f15 := fun h => by
        obtain ⟨g, e, hB, u, v, hb⟩ := J.f15 (dn 15 h (by decide))
        exact ⟨g, e, hB, u, v, blk_grown hb src (by decide) hg⟩
    f16 := fun h => absurd (J.d14 (J.d16 (dn 16 h (by decide))).1).1 un
    d16 := fun h => ⟨up 14 (J.d16 (dn 16 h (by decide))).1, up 15 (J.d16 (dn 16 h (by decide))).2⟩ }
theorem j13_10 (J : J13 w0 b va vc vs wa wc ws sa sc ss ta tc ts l x w) (un : ¬ Lt l 10) (dep : Lt l 7) (hown : w'.ownsRow w0.heap.size 9 1 v' ss.length (strsC ss)) (hg : w.grownBy w' x.x75.ownBlock) : J13 w0 b va vc vs wa wc ws sa sc ss ta tc ts (l.setIfInBounds 10 true) { x with x78 := v' } w' := by
  have hi : 10 < l.size := by rw [J.size]; decide
  have up := fun j (h : Lt l j) => (lt_set hi j).2 (.inr h)
  have me : Lt (l.setIfInBounds 10 true) 10 := (lt_set hi 10).2 (.inl rfl)
  have dn := fun j (h : Lt (l.setIfInBounds 10 true) j) (hne : j ≠ 10) => ((lt_set hi j).1 h).resolve_left hne
  have src := J.f7 dep (un)
  exact {
    size := by rw [Array.size_setIfInBounds]; exact J.size
    below := Below.grown J.below hg J.below.size (fun k hk => (src.lt k hk).1)
    f1 := fun h => J.f1 (dn 1 h (by decide))
    f2 := fun h => J.f2 (dn 2 h (by decide))
    f4 := fun h => J.f4 (dn 4 h (by decide))
    f5 := fun h => J.f5 (dn 5 h (by decide))
    f8 := fun h => J.f8 (dn 8 h (by decide))
    f9 := fun h => J.f9 (dn 9 h (by decide))
    f11 := fun h => J.f11 (dn 11 h (by decide))
    f12 := fun h => J.f12 (dn 12 h (by decide))
    f0 := fun h hn => own_grown (J.f0 (dn 0 h (by decide)) (fun k => hn (up 3 k))) src (by decide) hg
    f3 := fun h hn => own_grown (J.f3 (dn 3 h (by decide)) (fun k => hn (up 6 k))) src (by decide) hg
    f6 := fun h => own_grown (J.f6 (dn 6 h (by decide))) src (by decide) hg
    f7 := fun _ hn => absurd me hn
    f10 := fun _ hn => hown
    f13 := fun h => absurd (J.d13 (dn 13 h (by decide))) un
    d6 := fun h => up 3 (J.d6 (dn 6 h (by decide)))
    d13 := fun h => up 10 (J.d13 (dn 13 h (by decide)))
    f14 := fun h => J.f14 (dn 14 h (by decide))
    d14 := fun h => ⟨up 6 (J.d14 (dn 14 h (by decide))).1, up 13 (J.d14 (dn 14 h (by decide))).2⟩
    f15 := fun h => by
        obtain ⟨g, e, hB, u, v, hb⟩ := J.f15 (dn 15 h (by decide))
        exact ⟨g, e, hB, u, v, blk_grown hb src (by decide) hg⟩
    f16 := fun h => by
        obtain ⟨g, e, hB, hb⟩ := J.f16 (dn 16 h (by decide))
        exact ⟨g, e, hB, blk_grown hb src (by decide) hg⟩
    d16 := fun h => ⟨up 14 (J.d16 (dn 16 h (by decide))).1, up 15 (J.d16 (dn 16 h (by decide))).2⟩ }
theorem j13_13 (J : J13 w0 b va vc vs wa wc ws sa sc ss ta tc ts l x w) (un : ¬ Lt l 13) (dep : Lt l 10) (hown : w'.ownsRow w0.heap.size 9 1 v' (ss.length + ts.length) (strsC ss ++ strsC ts)) (hg : w.grownBy w' x.x78.ownBlock) : J13 w0 b va vc vs wa wc ws sa sc ss ta tc ts (l.setIfInBounds 13 true) { x with x81 := v' } w' := by
  have hi : 13 < l.size := by rw [J.size]; decide
  have up := fun j (h : Lt l j) => (lt_set hi j).2 (.inr h)
  have me : Lt (l.setIfInBounds 13 true) 13 := (lt_set hi 13).2 (.inl rfl)
  have dn := fun j (h : Lt (l.setIfInBounds 13 true) j) (hne : j ≠ 13) => ((lt_set hi j).1 h).resolve_left hne
  have src := J.f10 dep (un)
  exact {
    size := by rw [Array.size_setIfInBounds]; exact J.size
    below := Below.grown J.below hg J.below.size (fun k hk => (src.lt k hk).1)
    f1 := fun h => J.f1 (dn 1 h (by decide))
    f2 := fun h => J.f2 (dn 2 h (by decide))
    f4 := fun h => J.f4 (dn 4 h (by decide))
    f5 := fun h => J.f5 (dn 5 h (by decide))
    f8 := fun h => J.f8 (dn 8 h (by decide))
    f9 := fun h => J.f9 (dn 9 h (by decide))
    f11 := fun h => J.f11 (dn 11 h (by decide))
    f12 := fun h => J.f12 (dn 12 h (by decide))
    f0 := fun h hn => own_grown (J.f0 (dn 0 h (by decide)) (fun k => hn (up 3 k))) src (by decide) hg
    f3 := fun h hn => own_grown (J.f3 (dn 3 h (by decide)) (fun k => hn (up 6 k))) src (by decide) hg
    f6 := fun h => own_grown (J.f6 (dn 6 h (by decide))) src (by decide) hg
    f7 := fun _ hn => absurd (up 10 dep) hn
    f10 := fun _ hn => absurd me hn
    f13 := fun _ => hown
    d6 := fun h => up 3 (J.d6 (dn 6 h (by decide)))
    d13 := fun h => up 10 dep
    f14 := fun h => absurd (J.d14 (dn 14 h (by decide))).2 un
    d14 := fun h => ⟨up 6 (J.d14 (dn 14 h (by decide))).1, up 13 (J.d14 (dn 14 h (by decide))).2⟩
    f15 := fun h => by
        obtain ⟨g, e, hB, u, v, hb⟩ := J.f15 (dn 15 h (by decide))
        exact ⟨g, e, hB, u, v, blk_grown hb src (by decide) hg⟩
    f16 := fun h => absurd (J.d14 (J.d16 (dn 16 h (by decide))).1).2 un
    d16 := fun h => ⟨up 14 (J.d16 (dn 16 h (by decide))).1, up 15 (J.d16 (dn 16 h (by decide))).2⟩ }
theorem j13_16 (J : J13 w0 b va vc vs wa wc ws sa sc ss ta tc ts l x w) (_un : ¬ Lt l 16) (h14 : Lt l 14) (h15 : Lt l 15) {g : Nat} (hx : x.x15 = .pointer (some ⟨g, 0, none⟩)) (hB : w0.heap.size ≤ g) {u v : Value} (hblk : w.heap[g]? = some (.cells #[u, v] 25 (0, 0))) : J13 w0 b va vc vs wa wc ws sa sc ss ta tc ts (l.setIfInBounds 16 true) x ((w.setCell ⟨g, 0, none⟩ x.x74).setCell ⟨g, 1, none⟩ x.x81) := by
  have hi : 16 < l.size := by rw [J.size]; decide
  have up := fun j (h : Lt l j) => (lt_set hi j).2 (.inr h)
  have me : Lt (l.setIfInBounds 16 true) 16 := (lt_set hi 16).2 (.inl rfl)
  have dn := fun j (h : Lt (l.setIfInBounds 16 true) j) (hne : j ≠ 16) => ((lt_set hi j).1 h).resolve_left hne
  exact {
    size := by rw [Array.size_setIfInBounds]; exact J.size
    below := (J.below.setCell hB _).setCell hB _
    f1 := fun h => J.f1 (dn 1 h (by decide))
    f2 := fun h => J.f2 (dn 2 h (by decide))
    f4 := fun h => J.f4 (dn 4 h (by decide))
    f5 := fun h => J.f5 (dn 5 h (by decide))
    f8 := fun h => J.f8 (dn 8 h (by decide))
    f9 := fun h => J.f9 (dn 9 h (by decide))
    f11 := fun h => J.f11 (dn 11 h (by decide))
    f12 := fun h => J.f12 (dn 12 h (by decide))
    f0 := fun h hn => own_set (own_set (J.f0 (dn 0 h (by decide)) (fun k => hn (up 3 k))) hblk (by decide)) (blk_set hblk) (by decide)
    f3 := fun h hn => own_set (own_set (J.f3 (dn 3 h (by decide)) (fun k => hn (up 6 k))) hblk (by decide)) (blk_set hblk) (by decide)
    f6 := fun h => own_set (own_set (J.f6 (dn 6 h (by decide))) hblk (by decide)) (blk_set hblk) (by decide)
    f7 := fun h hn => own_set (own_set (J.f7 (dn 7 h (by decide)) (fun k => hn (up 10 k))) hblk (by decide)) (blk_set hblk) (by decide)
    f10 := fun h hn => own_set (own_set (J.f10 (dn 10 h (by decide)) (fun k => hn (up 13 k))) hblk (by decide)) (blk_set hblk) (by decide)
    f13 := fun h => own_set (own_set (J.f13 (dn 13 h (by decide))) hblk (by decide)) (blk_set hblk) (by decide)
    d6 := fun h => up 3 (J.d6 (dn 6 h (by decide)))
    d13 := fun h => up 10 (J.d13 (dn 13 h (by decide)))
    f14 := fun h => J.f14 (dn 14 h (by decide))
    d14 := fun h => ⟨up 6 (J.d14 (dn 14 h (by decide))).1, up 13 (J.d14 (dn 14 h (by decide))).2⟩
    f15 := fun h => ⟨g, hx, hB, _, _, blk_set (blk_set hblk)⟩
    f16 := fun h => ⟨g, hx, hB, blk_set (blk_set hblk)⟩
    d16 := fun h => ⟨up 14 h14, up 15 h15⟩ }
/-- At first: nothing is done. -/
theorem j13_start (x : S13) (hw : Below w0.heap.size w0 w) : J13 w0 b va vc vs wa wc ws sa sc ss ta tc ts (Array.replicate 17 false) x w := by
  have no : ∀ j, ¬ Lt (Array.replicate 17 false) j := fun j h => by
    unfold Lt at h
    rw [Array.getD_eq_getD_getElem?, Array.getElem?_replicate] at h
    split at h <;> cases h
  exact {
    size := by simp
    below := hw
    f1 := fun h => absurd h (no _)
    f2 := fun h => absurd h (no _)
    f4 := fun h => absurd h (no _)
    f5 := fun h => absurd h (no _)
    f8 := fun h => absurd h (no _)
    f9 := fun h => absurd h (no _)
    f11 := fun h => absurd h (no _)
    f12 := fun h => absurd h (no _)
    f0 := fun h => absurd h (no _)
    f3 := fun h => absurd h (no _)
    f6 := fun h => absurd h (no _)
    f7 := fun h => absurd h (no _)
    f10 := fun h => absurd h (no _)
    f13 := fun h => absurd h (no _)
    f14 := fun h => absurd h (no _)
    f15 := fun h => absurd h (no _)
    f16 := fun h => absurd h (no _)
    d6 := fun h => absurd h (no _)
    d13 := fun h => absurd h (no _)
    d14 := fun h => absurd h (no _)
    d16 := fun h => absurd h (no _) }
/-- At last: both lists, and the variable. -/
def Both (w0 : World) (vs : List (ByteArray × Int)) (ss : List ByteArray) (x15 : Value) (w : World) : Prop := ∃ (g : Nat) (pa : Option Addr) (pc : Nat) (qa : Option Addr) (qc : Nat), x15 = .pointer (some ⟨g, 0, none⟩) ∧ w0.heap.size ≤ g ∧ g < w.heap.size ∧
  w.cell? ⟨g, 0, none⟩ = some (.slice pa vs.length pc) ∧ w.cell? ⟨g, 1, none⟩ = some (.slice qa ss.length qc) ∧ VarsAt w pa vs ∧ StrsAt w qa ss ∧ Below w0.heap.size w0 w
theorem own_slice {B e s n : Nat} {v : Value} {xs : List Value} (h : w.ownsRow B e s v n xs) : ∃ ao cap, v = .slice ao n cap := by
  rcases h.2 with ⟨rfl, rfl⟩ | ⟨g, cap, cur, rfl, _⟩
  · exact ⟨none, 0, rfl⟩
  · exact ⟨_, cap, rfl⟩
theorem j13_end (J : J13 w0 b va vc vs wa wc ws sa sc ss ta tc ts l x w) (h6 : Lt l 6) (h13 : Lt l 13) (h16 : Lt l 16) : Both w0 (vs ++ ws) (ss ++ ts) x.x15 w := by
  obtain ⟨g, hx, hB, hblk⟩ := J.f16 h16
  have o1 := J.f6 h6
  have o2 := J.f13 h13
  obtain ⟨pa, pc, hp⟩ := own_slice o1
  obtain ⟨qa, qc, hq⟩ := own_slice o2
  rw [hp] at o1 hblk
  rw [hq] at o2 hblk
  have e1 : (vs ++ ws).length = vs.length + ws.length := List.length_append
  have e2 : (ss ++ ts).length = ss.length + ts.length := List.length_append
  have e3 : strsC (ss ++ ts) = strsC ss ++ strsC ts := by unfold strsC; rw [List.map_append]
  refine ⟨g, pa, pc, qa, qc, hx, hB, (Array.getElem?_eq_some_iff.1 hblk).1, ?_, ?_, ?_, ?_, J.below⟩
  · rw [cell_of_row w g 0 _ _ _ hblk, e1]; rfl
  · rw [cell_of_row w g 1 _ _ _ hblk, e2]; rfl
  · rw [← varsC_app, ← e1] at o1; exact vars_own o1
  · rw [← e3, ← e2] at o2; exact strs_own o2
end
end Go.Proofs.YtkjgfcbanlcmgaaGreatDoor

