/- Acts as rows of cells; the law's own helpers: nodes, acts as the document has them, whether two are alike. -/
import Derived.Test.YtmdjlngdpjjfiaaGreatDoorAP
import Derived.Test.YtmdjlngdpjjfiaaGreatDoorXR
import Derived.WalkKit
import Derived.ProofKit
import Derived.OpenShut
import Derived.Handy
import Derived.BigQuiet
import Derived.OwnWalk
import Derived.Deep.AppendLies
import Derived.Lib.Hide
import Derived.WalkSmall
import Derived.WalkLawsBesides
namespace Go.Proofs.YtmdjlngdpjjfiaaGreatDoor
open Go.RowKit
/-! ### Acts as cells -/
/-- Acts, to be read. -/
def ActsAt (w : World) (ao : Option Addr) (cs : List Ac) : Prop := 0 < cs.length → ∃ g, ao = some ⟨g, 0, none⟩ ∧ g < w.heap.size ∧ ∀ i (h : i < cs.length), ∃ io ic xo xc,
  w.cell? ⟨g, i * 5, none⟩ = some (.int .i64 cs[i].kind) ∧ w.cell? ⟨g, i * 5 + 1, none⟩ = some (.slice io cs[i].cond.length ic) ∧ w.cell? ⟨g, i * 5 + 2, none⟩ = some (.string ⟨cs[i].name.toArray⟩) ∧
  w.cell? ⟨g, i * 5 + 3, none⟩ = some (.slice xo cs[i].x.length xc) ∧ w.cell? ⟨g, i * 5 + 4, none⟩ = some (.int .i64 cs[i].n) ∧ NdsAt w io cs[i].cond ∧ NdsAt w xo cs[i].x
theorem acts_below {w w' : World} {ao : Option Addr} {cs : List Ac} (h : ActsAt w ao cs) (hb : Below w.heap.size w w') : ActsAt w' ao cs := fun h0 => by
  obtain ⟨g, hg, hgl, ht⟩ := h h0
  refine ⟨g, hg, Nat.lt_of_lt_of_le hgl hb.size, fun i hi => ?_⟩
  obtain ⟨io, ic, xo, xc, h1, h2, h3, h4, h5, h6, h7⟩ := ht i hi
  exact ⟨io, ic, xo, xc, (hb.cell (p := ⟨g, _, none⟩) hgl).trans h1, (hb.cell (p := ⟨g, _, none⟩) hgl).trans h2, (hb.cell (p := ⟨g, _, none⟩) hgl).trans h3, (hb.cell (p := ⟨g, _, none⟩) hgl).trans h4, (hb.cell (p := ⟨g, _, none⟩) hgl).trans h5, nds_below h6 hb, nds_below h7 hb⟩
/-- An act's cells; its expressions lie in rows of the call's own. -/
def AcV (T : TypeId) (B : Nat) (w : World) (c : Ac) (vs : List Value) : Prop := ∃ iv xv, vs = [.int .i64 c.kind, iv, .string ⟨c.name.toArray⟩, xv, .int .i64 c.n] ∧ w.ownsRow B T 7 iv c.cond.length (ndsC c.cond) ∧ w.ownsRow B T 7 xv c.x.length (ndsC c.x)
inductive AcVs (T : TypeId) (B : Nat) (w : World) : List Ac → List Value → Prop
  | nil : AcVs T B w [] []
  | cons {c : Ac} {cs : List Ac} {v vs : List Value} : AcV T B w c v → AcVs T B w cs vs → AcVs T B w (c :: cs) (v ++ vs)
theorem acV_len {T : TypeId} {B : Nat} {w : World} {c : Ac} {v : List Value} (h : AcV T B w c v) : v.length = 5 := by
  obtain ⟨iv, xv, rfl, _⟩ := h
  rfl
theorem acVs_len {T : TypeId} {B : Nat} {w : World} {cs : List Ac} {vs : List Value} (h : AcVs T B w cs vs) : vs.length = cs.length * 5 := by
  induction h with
  | nil => rfl
  | cons h _ ih =>
    rw [List.length_append, acV_len h, ih, List.length_cons]
    omega
theorem acVs_at {T : TypeId} {B : Nat} {w : World} {cs : List Ac} {vs : List Value} (h : AcVs T B w cs vs) : ∀ i (hi : i < cs.length), ∃ v, AcV T B w cs[i] v ∧ ∀ j, j < 5 → vs[i * 5 + j]? = v[j]? := by
  induction h with
  | nil => exact fun i hi => absurd hi (Nat.not_lt_zero _)
  | @cons c cs v vs h1 _ ih =>
    have hl := acV_len h1
    intro i hi
    cases i with
    | zero =>
      refine ⟨v, h1, fun j hj => ?_⟩
      rw [Nat.zero_mul, Nat.zero_add, List.getElem?_append_left (by omega)]
    | succ i =>
      obtain ⟨u, h2, h3⟩ := ih i (by simpa using hi)
      refine ⟨u, h2, fun j hj => ?_⟩
      rw [List.getElem?_append_right (by omega), ← h3 j hj]
      congr 1
      omega
theorem acVs_snoc {T : TypeId} {B : Nat} {w : World} {cs : List Ac} {vs : List Value} {c : Ac} {v : List Value} (h : AcVs T B w cs vs) (hc : AcV T B w c v) : AcVs T B w (cs ++ [c]) (vs ++ v) := by
  induction h with
  | nil =>
    have := AcVs.cons hc (AcVs.nil (T := T) (B := B) (w := w))
    rwa [List.append_nil] at this
  | cons h1 _ ih =>
    rw [List.append_assoc]
    exact .cons h1 ih
theorem acVs_append {T : TypeId} {B : Nat} {w : World} {cs ds : List Ac} {vs us : List Value} (h : AcVs T B w cs vs) (hd : AcVs T B w ds us) : AcVs T B w (cs ++ ds) (vs ++ us) := by
  induction h with
  | nil => exact hd
  | cons h1 _ ih =>
    rw [List.append_assoc]
    exact .cons h1 ih
theorem acVs_map {T : TypeId} {B B' : Nat} {w w' : World} {cs : List Ac} {vs : List Value} (h : AcVs T B w cs vs) (hk : ∀ (v : Value) (n : Nat) (xs : List Value), w.ownsRow B T 7 v n xs → w'.ownsRow B' T 7 v n xs) : AcVs T B' w' cs vs := by
  induction h with
  | nil => exact .nil
  | cons h1 _ ih =>
    obtain ⟨iv, xv, rfl, h2, h3⟩ := h1
    exact .cons ⟨iv, xv, rfl, hk _ _ _ h2, hk _ _ _ h3⟩ ih
theorem acVs_one {T : TypeId} {B : Nat} {w : World} {cs : List Ac} {vs : List Value} (h : AcVs T B w cs vs) : ∀ u ∈ vs, u.oneCell' = true := by
  induction h with
  | nil => intro u hu; cases hu
  | cons h1 _ ih =>
    obtain ⟨iv, xv, rfl, h2, h3⟩ := h1
    obtain ⟨_, _, rfl⟩ := own_form h2
    obtain ⟨_, _, rfl⟩ := own_form h3
    intro u hu
    rw [List.mem_append] at hu
    rcases hu with hu | hu
    · simp at hu
      rcases hu with rfl | rfl | rfl | rfl | rfl <;> rfl
    · exact ih u hu
theorem acVs_keep {T : TypeId} {B : Nat} {w w' : World} {cs : List Ac} {vs : List Value} (h : AcVs T B w cs vs) (hb : Below w.heap.size w w') : AcVs T B w' cs vs := acVs_map h fun _ _ _ hv => owns_below hv hb
theorem acVs_single {T : TypeId} {B : Nat} {w : World} {c : Ac} {v : List Value} (h : AcV T B w c v) : AcVs T B w [c] v := by
  have := AcVs.cons h (AcVs.nil (T := T) (B := B) (w := w))
  rwa [List.append_nil] at this
theorem acV_keep {T : TypeId} {B : Nat} {w w' : World} {c : Ac} {vs : List Value} (h : AcV T B w c vs) (hb : Below w.heap.size w w') : AcV T B w' c vs := by
  obtain ⟨iv, xv, e, h1, h2⟩ := h
  exact ⟨iv, xv, e, owns_below h1 hb, owns_below h2 hb⟩
/-- Acts that the call has made: their row, and their expressions' rows. -/
def AcRow (T E : TypeId) (B : Nat) (w : World) (v : Value) (cs : List Ac) : Prop := ∃ vs, AcVs T B w cs vs ∧ w.ownsRow B E 5 v cs.length vs
theorem acRow_nil (T E : TypeId) (B : Nat) (w : World) : AcRow T E B w (.slice none 0 0) [] := ⟨[], .nil, World.ownsRow_nil _ _ _ _⟩
theorem acRow_keep {T E : TypeId} {B : Nat} {w w' : World} {v : Value} {cs : List Ac} (h : AcRow T E B w v cs) (hb : Below w.heap.size w w') : AcRow T E B w' v cs := by
  obtain ⟨vs, h1, h2⟩ := h
  exact ⟨vs, acVs_map h1 fun v n xs hv => owns_below hv hb, owns_below h2 hb⟩
theorem acRow_base {T E : TypeId} {B B' : Nat} {w : World} {v : Value} {cs : List Ac} (h : AcRow T E B w v cs) (hB : B' ≤ B) : AcRow T E B' w v cs := by
  obtain ⟨vs, h1, h2⟩ := h
  exact ⟨vs, acVs_map h1 fun v n xs hv => owns_base hv hB, owns_base h2 hB⟩
theorem acRow_form {T E : TypeId} {B : Nat} {w : World} {v : Value} {cs : List Ac} (h : AcRow T E B w v cs) : ∃ ao cap, v = .slice ao cs.length cap := by
  obtain ⟨vs, _, h2⟩ := h
  exact own_form h2
theorem acRow_at {T E : TypeId} {B : Nat} {w : World} {ao : Option Addr} {n cap : Nat} {cs : List Ac} (h : AcRow T E B w (.slice ao n cap) cs) : ActsAt w ao cs := by
  obtain ⟨vs, h1, h2⟩ := h
  intro h0
  obtain ⟨g, cap', e, hg, _, _, hc⟩ := own_head h2 h0
  cases e
  refine ⟨g, rfl, hg, fun i hi => ?_⟩
  obtain ⟨v, ⟨iv, xv, rfl, h3, h4⟩, h5⟩ := acVs_at h1 i hi
  obtain ⟨io, ic, rfl⟩ := own_form h3
  obtain ⟨xo, xc, rfl⟩ := own_form h4
  exact ⟨io, ic, xo, xc, hc _ _ ((h5 0 (by decide)).trans rfl), hc _ _ ((h5 1 (by decide)).trans rfl), hc _ _ ((h5 2 (by decide)).trans rfl), hc _ _ ((h5 3 (by decide)).trans rfl), hc _ _ ((h5 4 (by decide)).trans rfl), ndsL_own h3, ndsL_own h4⟩
/-- Behind an append of another row's acts (or of one): W is the world ahead of it. -/
theorem acRow_grown {T E : TypeId} {B g cap n : Nat} {W w1 : World} {v : Value} {cs ds : List Ac} {vs us : List Value} (hT : T ≠ E) (h1 : AcVs T B W cs vs) (h2 : W.ownsRow B E 5 v cs.length vs) (h3 : AcVs T B W ds us) (hg : W.grownBy w1 v.ownBlock) (hn : n = (cs ++ ds).length) (ho : w1.ownsRow B E 5 (.slice (some ⟨g, 0, none⟩) n cap) n (vs ++ us)) : AcRow T E B w1 (.slice (some ⟨g, 0, none⟩) n cap) (cs ++ ds) := by
  subst hn
  exact ⟨vs ++ us, acVs_map (acVs_append h1 h3) fun u n xs hu => grown_other hu h2 (own_apart hu h2 hT) hg, ho⟩
/-! ### The law's helpers -/
def NodesIs (ns : List Nd) (w : World) (e : Ending) (w' : World) : Prop := ∃ v, e = .returned v ∧ w'.ownsRow w.heap.size 77 7 v ns.length (ndsC ns) ∧ Below w.heap.size w w'
set_option maxRecDepth 100000 in
set_option maxHeartbeats 4000000 in
theorem nodes6_any (ao : Option Addr) (cap : Nat) (ns : List Nd) (hn : ns.length ≤ 2000000) (w : World) (h : NdsAt w ao ns) : Calls Tryz.prog 17 #[.slice ao ns.length cap] w (NodesIs ns w) := by
  have H := fun wx hb => nds_below (w' := wx) h hb
  replace H := Lib.hid H
  obtain ⟨j0, hj, hy1, hy2, hy3⟩ := info_parts Tryz.infoN
  clear h
  go_enter Tryz.func17, Tryz.ntmps17
  go_wp2
  go_loopw [3, 8] (fun v x wr => ∃ (i : Nat) (oa : Option Addr) (oc : Nat), x = .int .i64 (i : Int) ∧ i ≤ ns.length ∧ v = .slice oa i oc ∧ wr.ownsRow w.heap.size 77 7 (.slice oa i oc) i (ndsC (ns.take i)) ∧ Below w.heap.size w wr) (fun _ x _ => ns.length - (intOf x).toNat)
  case atStart => exact ⟨0, none, 0, rfl, Nat.zero_le _, rfl, World.ownsRow_nil _ _ _ _, by repeat' (first | (with_reducible exact Below.refl _ _) | (with_reducible assumption) | (with_reducible refine Below.alloc ?_ ?_ _) | (with_reducible refine Below.drew ?_) | (with_reducible refine belowN ?_ _) | (with_reducible refine Below.setCell ?_ ?_ _) | (with_reducible refine belowG ?_ ?_) | (with_reducible exact Nat.le_refl _) | (with_reducible refine le_sizeG ?_) | (with_reducible refine le_sizeA ?_) | (with_reducible refine le_sizeC ?_) | (with_reducible refine le_sizeD ?_) | (with_reducible refine le_sizeN ?_) | go_size | (simp [go_sem]; done))⟩
  case round =>
    obtain ⟨i, oa, oc, rfl, hi, rfl, hown, hb⟩ := hrel
    rename World => wr
    have hwz := hb.size
    by_cases hlt : i < ns.length
    · obtain ⟨g, o, rfl, hg, hc⟩ := H.out wr hb (by omega)
      obtain ⟨n1, n2, n3, n4, n5, n6, n7⟩ := hc i hlt
      have htk := Lib.hid (ndsC_take ns i hlt)
      have hndc := Lib.hid (rfl : ndC ns[i] = ndC ns[i])
      obtain ⟨n, hnn⟩ : ∃ n, ns[i] = n := ⟨_, rfl⟩
      rw [hnn] at n1 n2 n3 n4 n5 n6 n7 htk
      have i1 : InW g wr := ⟨hg⟩
      clear hc hndc hnn
      have hI : (i : Int) < (ns.length : Int) := by omega
      have hownK := Lib.hid hown
      clear hown
      go_wp2_with (at_builtin; refine wpList_append_lies _ rfl _ _ 50 rfl w.heap.size 77 j0 _ 7 72 Tryz.underlying50 hj hy1 hy2 hy3 rfl (by decide) (.slice oa i oc) i (ndsC (ns.take i)) rfl (owns_below hownK.out (by repeat' (first | (with_reducible exact Below.refl _ _) | (with_reducible assumption) | (with_reducible refine Below.alloc ?_ ?_ _) | (with_reducible refine Below.drew ?_) | (with_reducible refine belowN ?_ _) | (with_reducible refine Below.setCell ?_ ?_ _) | (with_reducible refine belowG ?_ ?_) | (with_reducible exact Nat.le_refl _) | (with_reducible refine le_sizeG ?_) | (with_reducible refine le_sizeA ?_) | (with_reducible refine le_sizeC ?_) | (with_reducible refine le_sizeD ?_) | (with_reducible refine le_sizeN ?_) | go_size | (simp [go_sem]; done)))) ⟨_, 0, none⟩ 1 1 (ndC n) rfl rfl (World.news_of_block (new_at (by simp))) (by intro u hu; simp [ndC] at hu; rcases hu with rfl | rfl | rfl | rfl | rfl | rfl | rfl <;> rfl) (by decide) (by unfold maxLen; omega) (by omega) (by simp [go_sem]; omega) _ rfl ?_)
      intro g' cap' w1 hown1 hgrow hat1 hg1
      have hb1 : Below w.heap.size w w1 := Below.grown (by repeat' (first | (with_reducible exact Below.refl _ _) | (with_reducible assumption) | (with_reducible refine Below.alloc ?_ ?_ _) | (with_reducible refine Below.drew ?_) | (with_reducible refine belowN ?_ _) | (with_reducible refine Below.setCell ?_ ?_ _) | (with_reducible refine belowG ?_ ?_) | (with_reducible exact Nat.le_refl _) | (with_reducible refine le_sizeG ?_) | (with_reducible refine le_sizeA ?_) | (with_reducible refine le_sizeC ?_) | (with_reducible refine le_sizeD ?_) | (with_reducible refine le_sizeN ?_) | go_size | (simp [go_sem]; done))) hgrow (by simp [go_sem]; omega) (fun k hk => (hownK.out.lt k hk).1)
      have hown2 := Lib.hid hown1
      clear hown1 hgrow hat1 hg1 hownK hb
      go_wp2
      go_roundw
      case rel => exact ⟨i + 1, _, cap', by go_num, by omega, rfl, by rw [htk.out]; exact hown2.out, hb1⟩
      case measure => simp [intOf]; omega
    · obtain rfl : i = ns.length := by omega
      rw [List.take_length] at hown
      have hN := Lib.hid hown
      clear hown
      go_wp2
      go_returns
      exact ⟨_, rfl, hN.out, hb⟩
end Go.Proofs.YtmdjlngdpjjfiaaGreatDoor
