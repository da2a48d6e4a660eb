/- What takes acts from tokens: what stands behind an act's word. -/
import Derived.Test.YtmdjlngdpjjfiaaGreatDoorAU
import Derived.WalkKit
import Derived.ProofKit
import Derived.OpenShut
import Derived.Handy
import Derived.BigQuiet
import Derived.Lib.Hide
import Derived.WalkSmall
import Derived.WalkLawsBesides
namespace Go.Proofs.YtmdjlngdpjjfiaaGreatDoor
open Go.RowKit
/-- Nothing has turned, but two blocks. -/
structure KeptA (B tb ab : Nat) (w w' : World) : Prop where
  below : Below B w w'
  size : w.heap.size ≤ w'.heap.size
  block : ∀ k, k < w.heap.size → k ≠ tb → k ≠ ab → w'.heap[k]? = w.heap[k]?
theorem keptA_below {B tb ab : Nat} {w w' : World} (hb : Below w.heap.size w w') (hB : B ≤ w.heap.size) : KeptA B tb ab w w' := ⟨hb.mono hB, hb.size, fun k hk _ _ => hb.block k hk⟩
theorem keptA_refl (B tb ab : Nat) (w : World) : KeptA B tb ab w w := ⟨Below.refl _ _, Nat.le_refl _, fun _ _ _ _ => rfl⟩
theorem keptA_trans {B tb ab : Nat} {w w1 w2 : World} (h : KeptA B tb ab w w1) (k : KeptA B tb ab w1 w2) : KeptA B tb ab w w2 :=
  ⟨h.below.trans k.below, Nat.le_trans h.size k.size, fun j hj h1 h2 => (k.block j (Nat.lt_of_lt_of_le hj h.size) h1 h2).trans (h.block j hj h1 h2)⟩
theorem keptA_set {B tb ab b i : Nat} {v : Value} {w : World} (hb : b = tb ∨ b = ab) (hB : B ≤ b) : KeptA B tb ab w (w.setCell ⟨b, i, none⟩ v) := by
  refine ⟨(Below.refl B w).setCell (p := ⟨b, i, none⟩) hB _, Nat.le_of_eq (size_set _ _ _ _).symm, fun k _ h1 h2 => ?_⟩
  rw [Below.heap_setCell _ _ _ _ (fun e => by rcases hb with rfl | rfl <;> simp_all)]
theorem keptA_moved {B tb ab : Nat} {v : Value} {i : Nat} {w w' : World} (hB : B ≤ tb) (hs : B ≤ w.heap.size) (hb : Below w.heap.size (w.setCell ⟨tb, i, none⟩ v) w') : KeptA B tb ab w w' :=
  keptA_trans (keptA_set (.inl rfl) hB) (keptA_below (by rw [size_set]; exact hb) (by rw [size_set]; exact hs))
theorem keptA_less {B tb ab : Nat} {w w' : World} (h : KeptA B tb ab w w') (hab : w.heap.size ≤ ab) : KeptA B tb tb w w' :=
  ⟨h.below, h.size, fun k hk h1 _ => h.block k hk h1 (by omega)⟩
theorem keptA_alloc {B tb ab : Nat} {w : World} {o : Obj} (hB : B ≤ w.heap.size) : KeptA B tb ab w (w.alloc o) := keptA_below ((Below.refl _ w).alloc (Nat.le_refl _) _) hB
theorem keptA_blk {B tb ab b : Nat} {w w' : World} {o : Obj} (h : KeptA B tb ab w w') (hb : w.heap[b]? = some o) (h1 : b ≠ tb) (h2 : b ≠ ab) : w'.heap[b]? = some o :=
  (h.block b (Array.getElem?_eq_some_iff.1 hb).1 h1 h2).trans hb
/-- A row of the call's own, behind it. -/
theorem owns_keptA {B tb ab B' e s n : Nat} {v : Value} {xs : List Value} {w w' : World} (h : w.ownsRow B' e s v n xs) (hk : KeptA B tb ab w w') (h1 : v.ownBlock ≠ some tb) (h2 : v.ownBlock ≠ some ab) : w'.ownsRow B' e s v n xs := by
  refine ⟨h.1, ?_⟩
  rcases h.2 with hn | ⟨g, cap, cur, rfl, hg, hgg, rest⟩
  · exact .inl hn
  · refine .inr ⟨g, cap, cur, rfl, hg, ?_, rest⟩
    exact keptA_blk hk hgg (fun e => h1 (by subst e; rfl)) (fun e => h2 (by subst e; rfl))
theorem blk_far {b c i : Nat} {v : Value} {w : World} {o : Option Obj} (h : w.heap[b]? = o) (hne : b ≠ c) : (w.setCell ⟨c, i, none⟩ v).heap[b]? = o := by
  rw [Below.heap_setCell _ _ _ _ (fun e => hne (by simpa using e))]
  exact h
theorem blk_old {b : Nat} {w : World} {cs : Array Value} {t : TypeId} {fr : Nat × Nat} {o : Obj} (h : w.heap[b]? = some (.cells cs t fr)) : (w.alloc o).heap[b]? = some (.cells cs t fr) := by
  rw [heap_alloc_old w o (lt_of_block h)]
  exact h
/-- A block of five cells. -/
theorem five {w : World} {b : Nat} {t : TypeId} {v0 v1 v2 v3 v4 : Value} (h : w.heap[b]? = some (.cells #[v0, v1, v2, v3, v4] t (0, 0))) :
    w.cell? ⟨b, 0, none⟩ = some v0 ∧ w.cell? ⟨b, 1, none⟩ = some v1 ∧ w.cell? ⟨b, 2, none⟩ = some v2 ∧ w.cell? ⟨b, 3, none⟩ = some v3 ∧ w.cell? ⟨b, 4, none⟩ = some v4 ∧ b < w.heap.size ∧ ∀ i, w.frozen? ⟨b, i, none⟩ = false := by
  refine ⟨?_, ?_, ?_, ?_, ?_, lt_of_block h, fun i => frozen_of_row w b i _ _ h⟩
  all_goals
    rw [cell_of_row w b _ _ _ _ h]
    rfl
theorem blk_moved {b c i : Nat} {v : Value} {w w' : World} {cs : Array Value} {t : TypeId} {fr : Nat × Nat} (h : (w.setCell ⟨c, i, none⟩ v).heap[b]? = some (.cells cs t fr)) (hb : Below w.heap.size (w.setCell ⟨c, i, none⟩ v) w') : w'.heap[b]? = some (.cells cs t fr) :=
  (hb.block b (by rw [← size_set w c i v]; exact lt_of_block h)).trans h
def restT (ts : List Tk) (cond : List Nd) (k : Int) (a : Nat) : Except Int (Ac × Nat) :=
  if k = 5 then tailA ts cond 5 [] a
  else match eventAt (decide (1 < k)) ts a with
    | none => .error 11
    | some name => tailA ts cond k name (a + 1)
theorem doA_rest (ts : List Tk) (cond : List Nd) (a : Nat) : doA ts cond a = if actAt ts a = 0 then .error 11 else restT ts cond (actAt ts a) (a + 1) := by
  unfold doA restT
  split
  · rfl
  · split
    · rfl
    · rfl
abbrev tkrB (ao : Option Addr) (cap : Nat) (ts : List Tk) (a : Nat) : Obj := .cells #[.slice ao ts.length cap, .int .i64 (a : Int)] 46 (0, 0)
/-- What rest answers: 0, and the act's block is filled; or an error's number. -/
def RestIs (B tb ab : Nat) (ao : Option Addr) (cap : Nat) (ts : List Tk) (iv : Value) (x : Except Int (Ac × Nat)) (w : World) (e : Ending) (w' : World) : Prop :=
  match x with
  | .error x => e = .returned (.int .i64 x) ∧ KeptA B tb ab w w'
  | .ok (c, n) => ∃ xo xc, e = .returned (.int .i64 0) ∧ KeptA B tb ab w w' ∧ w'.heap[tb]? = some (tkrB ao cap ts n) ∧
      w'.heap[ab]? = some (.cells #[.int .i64 c.kind, iv, .string ⟨c.name.toArray⟩, .slice xo c.x.length xc, .int .i64 c.n] 38 (0, 0)) ∧ w'.ownsRow w.heap.size 80 7 (.slice xo c.x.length xc) c.x.length (ndsC c.x)
/-- Ahead of it: the taker's block, and the act's. -/
structure RestAt (w0 : World) (tb ab : Nat) (ao : Option Addr) (cap : Nat) (ts : List Tk) (k : Nat) (io : Option Addr) (il ic : Nat) (a : Nat) (w : World) : Prop where
  base : Base w0 ao ts
  tkr : TkrAt w0 tb ao cap ts a w
  act : w.heap[ab]? = some (.cells #[.int .i64 (k : Int), .slice io il ic, .string ⟨#[]⟩, .slice none 0 0, .int .i64 0] 38 (0, 0))
  own : w0.heap.size ≤ ab
  ne : tb ≠ ab
set_option maxRecDepth 100000 in
set_option maxHeartbeats 2000000 in
/-- An event, and no more: 'raise', 'cancel'. -/
theorem rest_event {w0 : World} {tb ab : Nat} {ao : Option Addr} {cap : Nat} {ts : List Tk} {k : Nat} {io : Option Addr} {il ic a : Nat} (hk : k = 2 ∨ k = 4) (cond : List Nd) (w : World) (h : RestAt w0 tb ab ao cap ts k io il ic a w) :
    Calls Tryz.prog 36 #[.pointer (some ⟨tb, 0, none⟩), .pointer (some ⟨ab, 0, none⟩)] w (RestIs w0.heap.size tb ab ao cap ts (.slice io il ic) (restT ts cond k a) w) := by
  obtain ⟨b0, b1, b2, b3, b4, hab, _⟩ := five h.act
  have F := Lib.hid (form_any k (by omega) (by omega) (.slice io il ic) (.string ⟨#[]⟩) (.slice none 0 0) (.int .i64 0) w (ax_below h.base.ax h.tkr.env).fg)
  obtain ⟨f0, hf⟩ : ∃ f0 : ByteArray, formV k = .agg #[.string f0, .bool false, .bool true, .bool false, .bool false] := by rcases hk with rfl | rfl <;> exact ⟨_, rfl⟩
  rw [hf] at F
  have N := Lib.hid (fun wx (hT : wx.heap[tb]? = some (tkrB ao cap ts a)) (hk : KeptA w0.heap.size tb ab w wx) => tname6_any true (.string f0) (.bool false) (.bool false) h.base wx ⟨hT, h.tkr.own, h.tkr.le, h.tkr.env.trans hk.below⟩)
  have hr : restT ts cond k a = match eventAt true ts a with | none => .error 11 | some name => .ok (⟨k, cond, name, [], 0⟩, a + 1) := by
    unfold restT
    rw [if_neg (by omega), show decide (1 < (k : Int)) = true from decide_eq_true (by omega)]
    cases eventAt true ts a with
    | none => rfl
    | some name =>
      simp only
      unfold tailA
      rw [if_neg (by omega), if_neg (by omega)]
  rw [hr]
  have hown := h.own
  have hne := h.ne
  have htown := h.tkr.own
  have hT0 := h.tkr.blk
  have hA0 := h.act
  have hsz : w0.heap.size ≤ w.heap.size := h.tkr.env.size
  have htl := lt_of_block hT0
  clear hf hr h
  cases hev : eventAt true ts a with
  | none =>
    rw [hev] at N
    clear hev
    go_enter Tryz.func36, Tryz.ntmps36
    go_wp2_with fail
    refine (F.out).mono ?_
    intro e wf hr
    obtain ⟨rfl, hbf⟩ := hr
    have hTf := blk_keep hT0 hbf
    have hAf := blk_keep hA0 hbf
    have hKf := keptA_below (B := w0.heap.size) (tb := tb) (ab := ab) hbf hsz
    have hszf : w0.heap.size ≤ wf.heap.size := Nat.le_trans hsz hbf.size
    have hne2 : ¬ ab = wf.heap.size := by have := hbf.size; omega
    have hne3 : ¬ tb = wf.heap.size := by have := hbf.size; omega
    clear hbf hT0 hA0 b0 b1 b2 b3 b4
    go_wp2_with fail
    refine (N.out _ (blk_old hTf) (keptA_trans hKf (keptA_alloc hszf))).mono ?_
    intro e w1 hr
    obtain ⟨rfl, hb⟩ := hr
    have hT1 := blk_keep (blk_old hTf) hb
    have hA1 := blk_keep (blk_old hAf) hb
    have hF1 := blk_keep (heap_alloc_new wf _) hb
    have hK1 := keptA_trans (keptA_trans hKf (keptA_alloc hszf)) (keptA_below (B := w0.heap.size) (tb := tb) (ab := ab) hb (Nat.le_trans hsz (KeptA.size (keptA_trans hKf (keptA_alloc hszf)))))
    obtain ⟨d0, d1, d2, d3, d4, hdb, hdf⟩ := five hA1
    obtain ⟨g0, g1, g2, g3, g4, hgb, hgf⟩ := five hF1
    have q2 := hdf 2
    have q3 := hdf 3
    have q4 := hdf 4
    have i1 : InW ab w1 := ⟨hdb⟩
    have i2 : InW wf.heap.size w1 := ⟨hgb⟩
    have i3 : InW tb w1 := ⟨lt_of_block hT1⟩
    clear hb hdf hgf
    clear N
    have hfin := Lib.hid (keptA_trans hK1 (keptA_set (B := w0.heap.size) (tb := tb) (i := 2) (v := (.string ⟨#[]⟩)) (.inr rfl) hown))
    clear hT1 hA1 hF1 hK1 hTf hAf hKf
    go_wp2
    go_returns
    exact ⟨rfl, hfin.out⟩
  | some name =>
    rw [hev] at N
    clear hev
    go_enter Tryz.func36, Tryz.ntmps36
    go_wp2_with fail
    refine (F.out).mono ?_
    intro e wf hr
    obtain ⟨rfl, hbf⟩ := hr
    have hTf := blk_keep hT0 hbf
    have hAf := blk_keep hA0 hbf
    have hKf := keptA_below (B := w0.heap.size) (tb := tb) (ab := ab) hbf hsz
    have hszf : w0.heap.size ≤ wf.heap.size := Nat.le_trans hsz hbf.size
    have hne2 : ¬ ab = wf.heap.size := by have := hbf.size; omega
    have hne3 : ¬ tb = wf.heap.size := by have := hbf.size; omega
    clear hbf hT0 hA0 b0 b1 b2 b3 b4
    go_wp2_with fail
    refine (N.out _ (blk_old hTf) (keptA_trans hKf (keptA_alloc hszf))).mono ?_
    intro e w1 hr
    obtain ⟨rfl, hb⟩ := hr
    have hT1 := blk_moved (blk_set (blk_old hTf)) hb
    have hA1 := blk_moved (blk_far (blk_old hAf) hne.symm) hb
    have hF1 := blk_moved (blk_far (heap_alloc_new wf _) (Ne.symm hne3)) hb
    have hK1 := keptA_trans (keptA_trans hKf (keptA_alloc hszf)) (keptA_moved (B := w0.heap.size) (ab := ab) htown (Nat.le_trans hsz (KeptA.size (keptA_trans hKf (keptA_alloc hszf)))) hb)
    obtain ⟨d0, d1, d2, d3, d4, hdb, hdf⟩ := five hA1
    obtain ⟨g0, g1, g2, g3, g4, hgb, hgf⟩ := five hF1
    have q2 := hdf 2
    have q3 := hdf 3
    have q4 := hdf 4
    have i1 : InW ab w1 := ⟨hdb⟩
    have i2 : InW wf.heap.size w1 := ⟨hgb⟩
    have i3 : InW tb w1 := ⟨lt_of_block hT1⟩
    clear hb hdf hgf
    clear N
    have hfinK := Lib.hid (keptA_trans hK1 (keptA_set (B := w0.heap.size) (tb := tb) (i := 2) (v := (.string ⟨name.toArray⟩)) (.inr rfl) hown))
    have hfinT := Lib.hid (blk_far (i := 2) (v := (.string ⟨name.toArray⟩)) hT1 hne)
    have hfinA := Lib.hid (blk_set (i := 2) (u := (.string ⟨name.toArray⟩)) hA1)
    skip
    clear hT1 hA1 hF1 hK1 hTf hAf hKf
    go_wp2
    go_returns
    exact ⟨none, 0, rfl, hfinK.out, hfinT.out, hfinA.out, World.ownsRow_nil _ _ _ _⟩
set_option maxRecDepth 100000 in
set_option maxHeartbeats 2000000 in
/-- A name and an expression: 'set'. -/
theorem rest_set {w0 : World} {tb ab : Nat} {ao : Option Addr} {cap : Nat} {ts : List Tk} {k : Nat} {io : Option Addr} {il ic a : Nat} (hk : k = 1) (cond : List Nd) (w : World) (h : RestAt w0 tb ab ao cap ts k io il ic a w) :
    Calls Tryz.prog 36 #[.pointer (some ⟨tb, 0, none⟩), .pointer (some ⟨ab, 0, none⟩)] w (RestIs w0.heap.size tb ab ao cap ts (.slice io il ic) (restT ts cond k a) w) := by
  subst hk
  obtain ⟨b0, b1, b2, b3, b4, hab, _⟩ := five h.act
  have F := Lib.hid (form_any 1 (by omega) (by omega) (.slice io il ic) (.string ⟨#[]⟩) (.slice none 0 0) (.int .i64 0) w (ax_below h.base.ax h.tkr.env).fg)
  obtain ⟨f0, hf⟩ : ∃ f0 : ByteArray, formV 1 = .agg #[.string f0, .bool true, .bool false, .bool true, .bool false] := ⟨_, rfl⟩
  rw [hf] at F
  have N := Lib.hid (fun wx (hT : wx.heap[tb]? = some (tkrB ao cap ts a)) (hk : KeptA w0.heap.size tb ab w wx) => tname6_any false (.string f0) (.bool true) (.bool false) h.base wx ⟨hT, h.tkr.own, h.tkr.le, h.tkr.env.trans hk.below⟩)
  have hr : restT ts cond (1 : Nat) a = match eventAt false ts a with | none => .error 11 | some name => (match parseT ts ((a + 1 : Nat) : Int) with | .error x => .error x | .ok (ns, n) => .ok (⟨1, cond, name, ns, 0⟩, n)) := by
    unfold restT
    rw [if_neg (by decide), show decide (1 < ((1 : Nat) : Int)) = false from rfl]
    cases eventAt false ts a with
    | none => rfl
    | some name =>
      simp only
      unfold tailA
      rw [if_pos (.inl rfl)]
      rfl
  rw [hr]
  have hown := h.own
  have hne := h.ne
  have htown := h.tkr.own
  have hT0 := h.tkr.blk
  have hA0 := h.act
  have hsz : w0.heap.size ≤ w.heap.size := h.tkr.env.size
  have htl := lt_of_block hT0
  cases hev : eventAt false ts a with
  | none =>
    rw [hev] at N
    clear hev hf hr h
    go_enter Tryz.func36, Tryz.ntmps36
    go_wp2_with fail
    refine (F.out).mono ?_
    intro e wf hr
    obtain ⟨rfl, hbf⟩ := hr
    have hTf := blk_keep hT0 hbf
    have hAf := blk_keep hA0 hbf
    have hKf := keptA_below (B := w0.heap.size) (tb := tb) (ab := ab) hbf hsz
    have hszf : w0.heap.size ≤ wf.heap.size := Nat.le_trans hsz hbf.size
    have hne2 : ¬ ab = wf.heap.size := by have := hbf.size; omega
    have hne3 : ¬ tb = wf.heap.size := by have := hbf.size; omega
    clear hbf hT0 hA0 b0 b1 b2 b3 b4
    go_wp2_with fail
    refine (N.out _ (blk_old hTf) (keptA_trans hKf (keptA_alloc hszf))).mono ?_
    intro e w1 hr
    obtain ⟨rfl, hb⟩ := hr
    have hT1 := blk_keep (blk_old hTf) hb
    have hA1 := blk_keep (blk_old hAf) hb
    have hF1 := blk_keep (heap_alloc_new wf _) hb
    have hK1 := keptA_trans (keptA_trans hKf (keptA_alloc hszf)) (keptA_below (B := w0.heap.size) (tb := tb) (ab := ab) hb (Nat.le_trans hsz (KeptA.size (keptA_trans hKf (keptA_alloc hszf)))))
    obtain ⟨d0, d1, d2, d3, d4, hdb, hdf⟩ := five hA1
    obtain ⟨g0, g1, g2, g3, g4, hgb, hgf⟩ := five hF1
    have q2 := hdf 2
    have q3 := hdf 3
    have q4 := hdf 4
    have i1 : InW ab w1 := ⟨hdb⟩
    have i2 : InW wf.heap.size w1 := ⟨hgb⟩
    have i3 : InW tb w1 := ⟨lt_of_block hT1⟩
    clear hb hdf hgf
    clear N
    have hfin := Lib.hid (keptA_trans hK1 (keptA_set (B := w0.heap.size) (tb := tb) (i := 2) (v := (.string ⟨#[]⟩)) (.inr rfl) hown))
    clear hT1 hA1 hF1 hK1 hTf hAf hKf
    go_wp2
    go_returns
    exact ⟨rfl, hfin.out⟩
  | some name =>
    have hlt := eventAt_lt hev
    rw [hev] at N
    have X := Lib.hid (fun wx (hT : wx.heap[tb]? = some (tkrB ao cap ts (a + 1))) (hk : KeptA w0.heap.size tb ab w wx) => texpr_any h.base wx ⟨hT, h.tkr.own, hlt, h.tkr.env.trans hk.below⟩)
    clear hev hf hr h
    cases hp : parseT ts ((a + 1 : Nat) : Int) with
    | error x =>
      rw [hp] at X
      have hx := parseT_nz hp
      have hx2 : (x == 0) = false := by
        rw [bne, Bool.not_eq_true'] at hx
        exact hx
      clear hp
      go_enter Tryz.func36, Tryz.ntmps36
      go_wp2_with fail
      refine (F.out).mono ?_
      intro e wf hr
      obtain ⟨rfl, hbf⟩ := hr
      have hTf := blk_keep hT0 hbf
      have hAf := blk_keep hA0 hbf
      have hKf := keptA_below (B := w0.heap.size) (tb := tb) (ab := ab) hbf hsz
      have hszf : w0.heap.size ≤ wf.heap.size := Nat.le_trans hsz hbf.size
      have hne2 : ¬ ab = wf.heap.size := by have := hbf.size; omega
      have hne3 : ¬ tb = wf.heap.size := by have := hbf.size; omega
      clear hbf hT0 hA0 b0 b1 b2 b3 b4
      go_wp2_with fail
      refine (N.out _ (blk_old hTf) (keptA_trans hKf (keptA_alloc hszf))).mono ?_
      intro e w1 hr
      obtain ⟨rfl, hb⟩ := hr
      have hT1 := blk_moved (blk_set (blk_old hTf)) hb
      have hA1 := blk_moved (blk_far (blk_old hAf) hne.symm) hb
      have hF1 := blk_moved (blk_far (heap_alloc_new wf _) (Ne.symm hne3)) hb
      have hK1 := keptA_trans (keptA_trans hKf (keptA_alloc hszf)) (keptA_moved (B := w0.heap.size) (ab := ab) htown (Nat.le_trans hsz (KeptA.size (keptA_trans hKf (keptA_alloc hszf)))) hb)
      obtain ⟨d0, d1, d2, d3, d4, hdb, hdf⟩ := five hA1
      obtain ⟨g0, g1, g2, g3, g4, hgb, hgf⟩ := five hF1
      have q2 := hdf 2
      have q3 := hdf 3
      have q4 := hdf 4
      have i1 : InW ab w1 := ⟨hdb⟩
      have i2 : InW wf.heap.size w1 := ⟨hgb⟩
      have i3 : InW tb w1 := ⟨lt_of_block hT1⟩
      clear hb hdf hgf
      have hT2 := blk_far (i := 2) (v := (.string ⟨name.toArray⟩)) hT1 hne
      have hA2 := blk_set (i := 2) (u := (.string ⟨name.toArray⟩)) hA1
      have hF2 := blk_far (i := 2) (v := (.string ⟨name.toArray⟩)) hF1 (Ne.symm hne2)
      have hK2 := keptA_trans hK1 (keptA_set (B := w0.heap.size) (tb := tb) (i := 2) (v := (.string ⟨name.toArray⟩)) (.inr rfl) hown)
      clear N hT1 hA1 hF1 hK1
      go_wp2_with fail
      clear d0 d1 d2 d3 d4 g0 g1 g2 g3 g4 i1 i2 i3 q2 q3 q4 hdb hgb
      refine (X.out _ (hT2) (hK2)).mono ?_
      intro e w3 hr
      obtain ⟨rfl, hb⟩ := hr
      have hT3 := blk_keep (hT2) hb
      have hA3 := blk_keep (hA2) hb
      have hF3 := blk_keep (hF2) hb
      have hK3 := keptA_trans (hK2) (keptA_below (B := w0.heap.size) (tb := tb) (ab := ab) hb (Nat.le_trans hsz (KeptA.size (hK2))))
      obtain ⟨d0, d1, d2, d3, d4, hdb, hdf⟩ := five hA3
      obtain ⟨g0, g1, g2, g3, g4, hgb, hgf⟩ := five hF3
      have q2 := hdf 2
      have q3 := hdf 3
      have q4 := hdf 4
      have i1 : InW ab w3 := ⟨hdb⟩
      have i2 : InW wf.heap.size w3 := ⟨hgb⟩
      have i3 : InW tb w3 := ⟨lt_of_block hT3⟩
      clear hb hdf hgf
      clear X hT2 hA2 hF2 hK2
      have hfin := Lib.hid (keptA_trans hK3 (keptA_set (B := w0.heap.size) (tb := tb) (i := 3) (v := (.slice none 0 0)) (.inr rfl) hown))
      clear hT3 hA3 hF3 hK3 hTf hAf hKf
      go_wp2
      go_returns
      exact ⟨rfl, hfin.out⟩
    | ok p =>
      obtain ⟨ns, n⟩ := p
      rw [hp] at X
      clear hp
      go_enter Tryz.func36, Tryz.ntmps36
      go_wp2_with fail
      refine (F.out).mono ?_
      intro e wf hr
      obtain ⟨rfl, hbf⟩ := hr
      have hTf := blk_keep hT0 hbf
      have hAf := blk_keep hA0 hbf
      have hKf := keptA_below (B := w0.heap.size) (tb := tb) (ab := ab) hbf hsz
      have hszf : w0.heap.size ≤ wf.heap.size := Nat.le_trans hsz hbf.size
      have hne2 : ¬ ab = wf.heap.size := by have := hbf.size; omega
      have hne3 : ¬ tb = wf.heap.size := by have := hbf.size; omega
      clear hbf hT0 hA0 b0 b1 b2 b3 b4
      go_wp2_with fail
      refine (N.out _ (blk_old hTf) (keptA_trans hKf (keptA_alloc hszf))).mono ?_
      intro e w1 hr
      obtain ⟨rfl, hb⟩ := hr
      have hT1 := blk_moved (blk_set (blk_old hTf)) hb
      have hA1 := blk_moved (blk_far (blk_old hAf) hne.symm) hb
      have hF1 := blk_moved (blk_far (heap_alloc_new wf _) (Ne.symm hne3)) hb
      have hK1 := keptA_trans (keptA_trans hKf (keptA_alloc hszf)) (keptA_moved (B := w0.heap.size) (ab := ab) htown (Nat.le_trans hsz (KeptA.size (keptA_trans hKf (keptA_alloc hszf)))) hb)
      obtain ⟨d0, d1, d2, d3, d4, hdb, hdf⟩ := five hA1
      obtain ⟨g0, g1, g2, g3, g4, hgb, hgf⟩ := five hF1
      have q2 := hdf 2
      have q3 := hdf 3
      have q4 := hdf 4
      have i1 : InW ab w1 := ⟨hdb⟩
      have i2 : InW wf.heap.size w1 := ⟨hgb⟩
      have i3 : InW tb w1 := ⟨lt_of_block hT1⟩
      clear hb hdf hgf
      have hT2 := blk_far (i := 2) (v := (.string ⟨name.toArray⟩)) hT1 hne
      have hA2 := blk_set (i := 2) (u := (.string ⟨name.toArray⟩)) hA1
      have hF2 := blk_far (i := 2) (v := (.string ⟨name.toArray⟩)) hF1 (Ne.symm hne2)
      have hK2 := keptA_trans hK1 (keptA_set (B := w0.heap.size) (tb := tb) (i := 2) (v := (.string ⟨name.toArray⟩)) (.inr rfl) hown)
      clear N hT1 hA1 hF1 hK1
      go_wp2_with fail
      clear d0 d1 d2 d3 d4 g0 g1 g2 g3 g4 i1 i2 i3 q2 q3 q4 hdb hgb
      refine (X.out _ (hT2) (hK2)).mono ?_
      intro e w3 hr
      obtain ⟨v, rfl, hown3, hb⟩ := hr
      obtain ⟨xo, xc, hv⟩ := own_form hown3
      subst hv
      have hT3 := blk_moved (blk_set (hT2)) hb
      have hA3 := blk_moved (blk_far (hA2) hne.symm) hb
      have hF3 := blk_moved (blk_far (hF2) (Ne.symm hne3)) hb
      have hK3 := keptA_trans (hK2) (keptA_moved (B := w0.heap.size) (ab := ab) htown (Nat.le_trans hsz (KeptA.size (hK2))) hb)
      obtain ⟨d0, d1, d2, d3, d4, hdb, hdf⟩ := five hA3
      obtain ⟨g0, g1, g2, g3, g4, hgb, hgf⟩ := five hF3
      have q2 := hdf 2
      have q3 := hdf 3
      have q4 := hdf 4
      have i1 : InW ab w3 := ⟨hdb⟩
      have i2 : InW wf.heap.size w3 := ⟨hgb⟩
      have i3 : InW tb w3 := ⟨lt_of_block hT3⟩
      clear hb hdf hgf
      clear X hT2 hA2 hF2
      have hfinK := Lib.hid (keptA_trans hK3 (keptA_set (B := w0.heap.size) (tb := tb) (i := 3) (v := (.slice xo ns.length xc)) (.inr rfl) hown))
      have hfinT := Lib.hid (blk_far (i := 3) (v := (.slice xo ns.length xc)) hT3 hne)
      have hfinA := Lib.hid (blk_set (i := 3) (u := (.slice xo ns.length xc)) hA3)
      have hfinX := Lib.hid (owns_base (B' := w.heap.size) (ownsRow_setCell_other (a := ⟨ab, 3, none⟩) hown3 (own_ne hown3 hA3 (by decide)) (.slice xo ns.length xc)) (KeptA.size (hK2)))
      clear hown3
      clear hT3 hA3 hF3 hK3 hTf hAf hKf
      go_wp2
      go_returns
      exact ⟨_, _, rfl, hfinK.out, hfinT.out, hfinA.out, hfinX.out⟩
set_option maxRecDepth 100000 in
set_option maxHeartbeats 2000000 in
/-- An expression, and no more: 'log'. -/
theorem rest_log {w0 : World} {tb ab : Nat} {ao : Option Addr} {cap : Nat} {ts : List Tk} {k : Nat} {io : Option Addr} {il ic a : Nat} (hk : k = 5) (cond : List Nd) (w : World) (h : RestAt w0 tb ab ao cap ts k io il ic a w) :
    Calls Tryz.prog 36 #[.pointer (some ⟨tb, 0, none⟩), .pointer (some ⟨ab, 0, none⟩)] w (RestIs w0.heap.size tb ab ao cap ts (.slice io il ic) (restT ts cond k a) w) := by
  subst hk
  obtain ⟨b0, b1, b2, b3, b4, hab, _⟩ := five h.act
  have F := Lib.hid (form_any 5 (by omega) (by omega) (.slice io il ic) (.string ⟨#[]⟩) (.slice none 0 0) (.int .i64 0) w (ax_below h.base.ax h.tkr.env).fg)
  obtain ⟨f0, hf⟩ : ∃ f0 : ByteArray, formV 5 = .agg #[.string f0, .bool false, .bool false, .bool true, .bool false] := ⟨_, rfl⟩
  rw [hf] at F
  have X := Lib.hid (fun wx (hT : wx.heap[tb]? = some (tkrB ao cap ts a)) (hk : KeptA w0.heap.size tb ab w wx) => texpr_any h.base wx ⟨hT, h.tkr.own, h.tkr.le, h.tkr.env.trans hk.below⟩)
  have hr : restT ts cond (5 : Nat) a = match parseT ts (a : Int) with | .error x => .error x | .ok (ns, n) => .ok (⟨5, cond, [], ns, 0⟩, n) := by
    unfold restT
    rw [if_pos (by rfl)]
    unfold tailA
    rw [if_pos (.inr rfl)]
    cases parseT ts (a : Int) <;> rfl
  rw [hr]
  have hown := h.own
  have hne := h.ne
  have htown := h.tkr.own
  have hT0 := h.tkr.blk
  have hA0 := h.act
  have hsz : w0.heap.size ≤ w.heap.size := h.tkr.env.size
  have htl := lt_of_block hT0
  clear hf hr h
  cases hp : parseT ts (a : Int) with
  | error x =>
    rw [hp] at X
    have hx := parseT_nz hp
    have hx2 : (x == 0) = false := by
      rw [bne, Bool.not_eq_true'] at hx
      exact hx
    clear hp
    go_enter Tryz.func36, Tryz.ntmps36
    go_wp2_with fail
    refine (F.out).mono ?_
    intro e wf hr
    obtain ⟨rfl, hbf⟩ := hr
    have hTf := blk_keep hT0 hbf
    have hAf := blk_keep hA0 hbf
    have hKf := keptA_below (B := w0.heap.size) (tb := tb) (ab := ab) hbf hsz
    have hszf : w0.heap.size ≤ wf.heap.size := Nat.le_trans hsz hbf.size
    have hne2 : ¬ ab = wf.heap.size := by have := hbf.size; omega
    have hne3 : ¬ tb = wf.heap.size := by have := hbf.size; omega
    clear hbf hT0 hA0 b0 b1 b2 b3 b4
    go_wp2_with fail
    refine (X.out _ (blk_old hTf) (keptA_trans hKf (keptA_alloc hszf))).mono ?_
    intro e w1 hr
    obtain ⟨rfl, hb⟩ := hr
    have hT1 := blk_keep (blk_old hTf) hb
    have hA1 := blk_keep (blk_old hAf) hb
    have hF1 := blk_keep (heap_alloc_new wf _) hb
    have hK1 := keptA_trans (keptA_trans hKf (keptA_alloc hszf)) (keptA_below (B := w0.heap.size) (tb := tb) (ab := ab) hb (Nat.le_trans hsz (KeptA.size (keptA_trans hKf (keptA_alloc hszf)))))
    obtain ⟨d0, d1, d2, d3, d4, hdb, hdf⟩ := five hA1
    obtain ⟨g0, g1, g2, g3, g4, hgb, hgf⟩ := five hF1
    have q2 := hdf 2
    have q3 := hdf 3
    have q4 := hdf 4
    have i1 : InW ab w1 := ⟨hdb⟩
    have i2 : InW wf.heap.size w1 := ⟨hgb⟩
    have i3 : InW tb w1 := ⟨lt_of_block hT1⟩
    clear hb hdf hgf
    clear X
    have hfin := Lib.hid (keptA_trans hK1 (keptA_set (B := w0.heap.size) (tb := tb) (i := 3) (v := (.slice none 0 0)) (.inr rfl) hown))
    clear hT1 hA1 hF1 hK1 hTf hAf hKf
    go_wp2
    go_returns
    exact ⟨rfl, hfin.out⟩
  | ok p =>
    obtain ⟨ns, n⟩ := p
    rw [hp] at X
    clear hp
    go_enter Tryz.func36, Tryz.ntmps36
    go_wp2_with fail
    refine (F.out).mono ?_
    intro e wf hr
    obtain ⟨rfl, hbf⟩ := hr
    have hTf := blk_keep hT0 hbf
    have hAf := blk_keep hA0 hbf
    have hKf := keptA_below (B := w0.heap.size) (tb := tb) (ab := ab) hbf hsz
    have hszf : w0.heap.size ≤ wf.heap.size := Nat.le_trans hsz hbf.size
    have hne2 : ¬ ab = wf.heap.size := by have := hbf.size; omega
    have hne3 : ¬ tb = wf.heap.size := by have := hbf.size; omega
    have hwf := hbf.size
    clear hbf hT0 hA0 b0 b1 b2 b3 b4
    go_wp2_with fail
    refine (X.out _ (blk_old hTf) (keptA_trans hKf (keptA_alloc hszf))).mono ?_
    intro e w1 hr
    obtain ⟨v, rfl, hown1, hb⟩ := hr
    obtain ⟨xo, xc, hv⟩ := own_form hown1
    subst hv
    have hT1 := blk_moved (blk_set (blk_old hTf)) hb
    have hA1 := blk_moved (blk_far (blk_old hAf) hne.symm) hb
    have hF1 := blk_moved (blk_far (heap_alloc_new wf _) (Ne.symm hne3)) hb
    have hK1 := keptA_trans (keptA_trans hKf (keptA_alloc hszf)) (keptA_moved (B := w0.heap.size) (ab := ab) htown (Nat.le_trans hsz (KeptA.size (keptA_trans hKf (keptA_alloc hszf)))) hb)
    obtain ⟨d0, d1, d2, d3, d4, hdb, hdf⟩ := five hA1
    obtain ⟨g0, g1, g2, g3, g4, hgb, hgf⟩ := five hF1
    have q2 := hdf 2
    have q3 := hdf 3
    have q4 := hdf 4
    have i1 : InW ab w1 := ⟨hdb⟩
    have i2 : InW wf.heap.size w1 := ⟨hgb⟩
    have i3 : InW tb w1 := ⟨lt_of_block hT1⟩
    clear hb hdf hgf
    clear X
    have hfinK := Lib.hid (keptA_trans hK1 (keptA_set (B := w0.heap.size) (tb := tb) (i := 3) (v := (.slice xo ns.length xc)) (.inr rfl) hown))
    have hfinT := Lib.hid (blk_far (i := 3) (v := (.slice xo ns.length xc)) hT1 hne)
    have hfinA := Lib.hid (blk_set (i := 3) (u := (.slice xo ns.length xc)) hA1)
    have hfinX := Lib.hid (owns_base (B' := w.heap.size) (ownsRow_setCell_other (a := ⟨ab, 3, none⟩) hown1 (own_ne hown1 hA1 (by decide)) (.slice xo ns.length xc)) (by simp; omega))
    clear hown1
    clear hT1 hA1 hF1 hK1 hTf hAf hKf
    go_wp2
    go_returns
    exact ⟨_, _, rfl, hfinK.out, hfinT.out, hfinA.out, hfinX.out⟩
set_option maxRecDepth 100000 in
set_option maxHeartbeats 2000000 in
/-- An event and a number: 'send'. -/
theorem rest_send {w0 : World} {tb ab : Nat} {ao : Option Addr} {cap : Nat} {ts : List Tk} {k : Nat} {io : Option Addr} {il ic a : Nat} (hk : k = 3) (cond : List Nd) (w : World) (h : RestAt w0 tb ab ao cap ts k io il ic a w) :
    Calls Tryz.prog 36 #[.pointer (some ⟨tb, 0, none⟩), .pointer (some ⟨ab, 0, none⟩)] w (RestIs w0.heap.size tb ab ao cap ts (.slice io il ic) (restT ts cond k a) w) := by
  subst hk
  obtain ⟨b0, b1, b2, b3, b4, hab, _⟩ := five h.act
  have F := Lib.hid (form_any 3 (by omega) (by omega) (.slice io il ic) (.string ⟨#[]⟩) (.slice none 0 0) (.int .i64 0) w (ax_below h.base.ax h.tkr.env).fg)
  obtain ⟨f0, hf⟩ : ∃ f0 : ByteArray, formV 3 = .agg #[.string f0, .bool false, .bool true, .bool false, .bool true] := ⟨_, rfl⟩
  rw [hf] at F
  have N := Lib.hid (fun wx (hT : wx.heap[tb]? = some (tkrB ao cap ts a)) (hk : KeptA w0.heap.size tb ab w wx) => tname6_any true (.string f0) (.bool false) (.bool true) h.base wx ⟨hT, h.tkr.own, h.tkr.le, h.tkr.env.trans hk.below⟩)
  have hr : restT ts cond (3 : Nat) a = match eventAt true ts a with | none => .error 11 | some name => (match numAt ts (a + 1) with | none => .error 11 | some n => if 1048576 < n then .error 10 else .ok (⟨3, cond, name, [], n⟩, a + 1 + 1)) := by
    unfold restT
    rw [if_neg (by decide), show decide (1 < ((3 : Nat) : Int)) = true from rfl]
    cases eventAt true ts a with
    | none => rfl
    | some name =>
      simp only
      unfold tailA
      rw [if_neg (by decide), if_pos (by rfl)]
      rfl
  rw [hr]
  have hown := h.own
  have hne := h.ne
  have htown := h.tkr.own
  have hT0 := h.tkr.blk
  have hA0 := h.act
  have hsz : w0.heap.size ≤ w.heap.size := h.tkr.env.size
  have htl := lt_of_block hT0
  cases hev : eventAt true ts a with
  | none =>
    rw [hev] at N
    clear hev hf hr h
    go_enter Tryz.func36, Tryz.ntmps36
    go_wp2_with fail
    refine (F.out).mono ?_
    intro e wf hr
    obtain ⟨rfl, hbf⟩ := hr
    have hTf := blk_keep hT0 hbf
    have hAf := blk_keep hA0 hbf
    have hKf := keptA_below (B := w0.heap.size) (tb := tb) (ab := ab) hbf hsz
    have hszf : w0.heap.size ≤ wf.heap.size := Nat.le_trans hsz hbf.size
    have hne2 : ¬ ab = wf.heap.size := by have := hbf.size; omega
    have hne3 : ¬ tb = wf.heap.size := by have := hbf.size; omega
    clear hbf hT0 hA0 b0 b1 b2 b3 b4
    go_wp2_with fail
    refine (N.out _ (blk_old hTf) (keptA_trans hKf (keptA_alloc hszf))).mono ?_
    intro e w1 hr
    obtain ⟨rfl, hb⟩ := hr
    have hT1 := blk_keep (blk_old hTf) hb
    have hA1 := blk_keep (blk_old hAf) hb
    have hF1 := blk_keep (heap_alloc_new wf _) hb
    have hK1 := keptA_trans (keptA_trans hKf (keptA_alloc hszf)) (keptA_below (B := w0.heap.size) (tb := tb) (ab := ab) hb (Nat.le_trans hsz (KeptA.size (keptA_trans hKf (keptA_alloc hszf)))))
    obtain ⟨d0, d1, d2, d3, d4, hdb, hdf⟩ := five hA1
    obtain ⟨g0, g1, g2, g3, g4, hgb, hgf⟩ := five hF1
    have q2 := hdf 2
    have q3 := hdf 3
    have q4 := hdf 4
    have i1 : InW ab w1 := ⟨hdb⟩
    have i2 : InW wf.heap.size w1 := ⟨hgb⟩
    have i3 : InW tb w1 := ⟨lt_of_block hT1⟩
    clear hb hdf hgf
    clear N
    have hfin := Lib.hid (keptA_trans hK1 (keptA_set (B := w0.heap.size) (tb := tb) (i := 2) (v := (.string ⟨#[]⟩)) (.inr rfl) hown))
    clear hT1 hA1 hF1 hK1 hTf hAf hKf
    go_wp2
    go_returns
    exact ⟨rfl, hfin.out⟩
  | some name =>
    have hlt := eventAt_lt hev
    rw [hev] at N
    have U := Lib.hid (fun wx (hT : wx.heap[tb]? = some (tkrB ao cap ts (a + 1))) (hk : KeptA w0.heap.size tb ab w wx) => tnum_any h.base wx ⟨hT, h.tkr.own, hlt, h.tkr.env.trans hk.below⟩)
    clear hev hf hr h
    cases hp : numAt ts (a + 1) with
    | none =>
      rw [hp] at U
      clear hp
      go_enter Tryz.func36, Tryz.ntmps36
      go_wp2_with fail
      refine (F.out).mono ?_
      intro e wf hr
      obtain ⟨rfl, hbf⟩ := hr
      have hTf := blk_keep hT0 hbf
      have hAf := blk_keep hA0 hbf
      have hKf := keptA_below (B := w0.heap.size) (tb := tb) (ab := ab) hbf hsz
      have hszf : w0.heap.size ≤ wf.heap.size := Nat.le_trans hsz hbf.size
      have hne2 : ¬ ab = wf.heap.size := by have := hbf.size; omega
      have hne3 : ¬ tb = wf.heap.size := by have := hbf.size; omega
      clear hbf hT0 hA0 b0 b1 b2 b3 b4
      go_wp2_with fail
      refine (N.out _ (blk_old hTf) (keptA_trans hKf (keptA_alloc hszf))).mono ?_
      intro e w1 hr
      obtain ⟨rfl, hb⟩ := hr
      have hT1 := blk_moved (blk_set (blk_old hTf)) hb
      have hA1 := blk_moved (blk_far (blk_old hAf) hne.symm) hb
      have hF1 := blk_moved (blk_far (heap_alloc_new wf _) (Ne.symm hne3)) hb
      have hK1 := keptA_trans (keptA_trans hKf (keptA_alloc hszf)) (keptA_moved (B := w0.heap.size) (ab := ab) htown (Nat.le_trans hsz (KeptA.size (keptA_trans hKf (keptA_alloc hszf)))) hb)
      obtain ⟨d0, d1, d2, d3, d4, hdb, hdf⟩ := five hA1
      obtain ⟨g0, g1, g2, g3, g4, hgb, hgf⟩ := five hF1
      have q2 := hdf 2
      have q3 := hdf 3
      have q4 := hdf 4
      have i1 : InW ab w1 := ⟨hdb⟩
      have i2 : InW wf.heap.size w1 := ⟨hgb⟩
      have i3 : InW tb w1 := ⟨lt_of_block hT1⟩
      clear hb hdf hgf
      have hT2 := blk_far (i := 2) (v := (.string ⟨name.toArray⟩)) hT1 hne
      have hA2 := blk_set (i := 2) (u := (.string ⟨name.toArray⟩)) hA1
      have hF2 := blk_far (i := 2) (v := (.string ⟨name.toArray⟩)) hF1 (Ne.symm hne2)
      have hK2 := keptA_trans hK1 (keptA_set (B := w0.heap.size) (tb := tb) (i := 2) (v := (.string ⟨name.toArray⟩)) (.inr rfl) hown)
      clear N hT1 hA1 hF1 hK1
      go_wp2_with fail
      clear d0 d1 d2 d3 d4 g0 g1 g2 g3 g4 i1 i2 i3 q2 q3 q4 hdb hgb
      refine (U.out _ (hT2) (hK2)).mono ?_
      intro e w3 hr
      obtain ⟨rfl, hb⟩ := hr
      have hT3 := blk_keep (hT2) hb
      have hA3 := blk_keep (hA2) hb
      have hF3 := blk_keep (hF2) hb
      have hK3 := keptA_trans (hK2) (keptA_below (B := w0.heap.size) (tb := tb) (ab := ab) hb (Nat.le_trans hsz (KeptA.size (hK2))))
      obtain ⟨d0, d1, d2, d3, d4, hdb, hdf⟩ := five hA3
      obtain ⟨g0, g1, g2, g3, g4, hgb, hgf⟩ := five hF3
      have q2 := hdf 2
      have q3 := hdf 3
      have q4 := hdf 4
      have i1 : InW ab w3 := ⟨hdb⟩
      have i2 : InW wf.heap.size w3 := ⟨hgb⟩
      have i3 : InW tb w3 := ⟨lt_of_block hT3⟩
      clear hb hdf hgf
      clear U hT2 hA2 hF2 hK2
      have hfin := Lib.hid (keptA_trans hK3 (keptA_set (B := w0.heap.size) (tb := tb) (i := 4) (v := (.int .i64 0)) (.inr rfl) hown))
      clear hT3 hA3 hF3 hK3 hTf hAf hKf
      go_wp2
      go_returns
      exact ⟨rfl, hfin.out⟩
    | some n =>
      rw [hp] at U
      clear hp
      by_cases hn : 1048576 < n
      · have U2 := Lib.hid (fun wx hT hk => (U.out wx hT hk).mono fun e w' hr => (show e = .returned (.tuple #[.int .i64 0, .int .i64 10]) ∧ Below wx.heap.size wx w' from by
          unfold TNumIs at hr
          simp only at hr
          rw [if_pos hn] at hr
          exact hr))
        simp only
        rw [if_pos hn]
        clear U
        go_enter Tryz.func36, Tryz.ntmps36
        go_wp2_with fail
        refine (F.out).mono ?_
        intro e wf hr
        obtain ⟨rfl, hbf⟩ := hr
        have hTf := blk_keep hT0 hbf
        have hAf := blk_keep hA0 hbf
        have hKf := keptA_below (B := w0.heap.size) (tb := tb) (ab := ab) hbf hsz
        have hszf : w0.heap.size ≤ wf.heap.size := Nat.le_trans hsz hbf.size
        have hne2 : ¬ ab = wf.heap.size := by have := hbf.size; omega
        have hne3 : ¬ tb = wf.heap.size := by have := hbf.size; omega
        clear hbf hT0 hA0 b0 b1 b2 b3 b4
        go_wp2_with fail
        refine (N.out _ (blk_old hTf) (keptA_trans hKf (keptA_alloc hszf))).mono ?_
        intro e w1 hr
        obtain ⟨rfl, hb⟩ := hr
        have hT1 := blk_moved (blk_set (blk_old hTf)) hb
        have hA1 := blk_moved (blk_far (blk_old hAf) hne.symm) hb
        have hF1 := blk_moved (blk_far (heap_alloc_new wf _) (Ne.symm hne3)) hb
        have hK1 := keptA_trans (keptA_trans hKf (keptA_alloc hszf)) (keptA_moved (B := w0.heap.size) (ab := ab) htown (Nat.le_trans hsz (KeptA.size (keptA_trans hKf (keptA_alloc hszf)))) hb)
        obtain ⟨d0, d1, d2, d3, d4, hdb, hdf⟩ := five hA1
        obtain ⟨g0, g1, g2, g3, g4, hgb, hgf⟩ := five hF1
        have q2 := hdf 2
        have q3 := hdf 3
        have q4 := hdf 4
        have i1 : InW ab w1 := ⟨hdb⟩
        have i2 : InW wf.heap.size w1 := ⟨hgb⟩
        have i3 : InW tb w1 := ⟨lt_of_block hT1⟩
        clear hb hdf hgf
        have hT2 := blk_far (i := 2) (v := (.string ⟨name.toArray⟩)) hT1 hne
        have hA2 := blk_set (i := 2) (u := (.string ⟨name.toArray⟩)) hA1
        have hF2 := blk_far (i := 2) (v := (.string ⟨name.toArray⟩)) hF1 (Ne.symm hne2)
        have hK2 := keptA_trans hK1 (keptA_set (B := w0.heap.size) (tb := tb) (i := 2) (v := (.string ⟨name.toArray⟩)) (.inr rfl) hown)
        clear N hT1 hA1 hF1 hK1
        go_wp2_with fail
        clear d0 d1 d2 d3 d4 g0 g1 g2 g3 g4 i1 i2 i3 q2 q3 q4 hdb hgb
        refine (U2.out _ (hT2) (hK2)).mono ?_
        intro e w3 hr
        obtain ⟨rfl, hb⟩ := hr
        have hT3 := blk_keep (hT2) hb
        have hA3 := blk_keep (hA2) hb
        have hF3 := blk_keep (hF2) hb
        have hK3 := keptA_trans (hK2) (keptA_below (B := w0.heap.size) (tb := tb) (ab := ab) hb (Nat.le_trans hsz (KeptA.size (hK2))))
        obtain ⟨d0, d1, d2, d3, d4, hdb, hdf⟩ := five hA3
        obtain ⟨g0, g1, g2, g3, g4, hgb, hgf⟩ := five hF3
        have q2 := hdf 2
        have q3 := hdf 3
        have q4 := hdf 4
        have i1 : InW ab w3 := ⟨hdb⟩
        have i2 : InW wf.heap.size w3 := ⟨hgb⟩
        have i3 : InW tb w3 := ⟨lt_of_block hT3⟩
        clear hb hdf hgf
        clear U2 hT2 hA2 hF2 hK2
        have hfin := Lib.hid (keptA_trans hK3 (keptA_set (B := w0.heap.size) (tb := tb) (i := 4) (v := (.int .i64 0)) (.inr rfl) hown))
        clear hT3 hA3 hF3 hK3 hTf hAf hKf
        go_wp2
        go_returns
        exact ⟨rfl, hfin.out⟩
      · have U2 := Lib.hid (fun wx hT hk => (U.out wx hT hk).mono fun e w' hr => (show e = .returned (.tuple #[.int .i64 n, .int .i64 0]) ∧ Below wx.heap.size (wx.setCell ⟨tb, 1, none⟩ (.int .i64 ((a + 1 + 1 : Nat) : Int))) w' from by
          unfold TNumIs at hr
          simp only at hr
          rw [if_neg hn] at hr
          exact hr))
        simp only
        rw [if_neg hn]
        clear U
        go_enter Tryz.func36, Tryz.ntmps36
        go_wp2_with fail
        refine (F.out).mono ?_
        intro e wf hr
        obtain ⟨rfl, hbf⟩ := hr
        have hTf := blk_keep hT0 hbf
        have hAf := blk_keep hA0 hbf
        have hKf := keptA_below (B := w0.heap.size) (tb := tb) (ab := ab) hbf hsz
        have hszf : w0.heap.size ≤ wf.heap.size := Nat.le_trans hsz hbf.size
        have hne2 : ¬ ab = wf.heap.size := by have := hbf.size; omega
        have hne3 : ¬ tb = wf.heap.size := by have := hbf.size; omega
        clear hbf hT0 hA0 b0 b1 b2 b3 b4
        go_wp2_with fail
        refine (N.out _ (blk_old hTf) (keptA_trans hKf (keptA_alloc hszf))).mono ?_
        intro e w1 hr
        obtain ⟨rfl, hb⟩ := hr
        have hT1 := blk_moved (blk_set (blk_old hTf)) hb
        have hA1 := blk_moved (blk_far (blk_old hAf) hne.symm) hb
        have hF1 := blk_moved (blk_far (heap_alloc_new wf _) (Ne.symm hne3)) hb
        have hK1 := keptA_trans (keptA_trans hKf (keptA_alloc hszf)) (keptA_moved (B := w0.heap.size) (ab := ab) htown (Nat.le_trans hsz (KeptA.size (keptA_trans hKf (keptA_alloc hszf)))) hb)
        obtain ⟨d0, d1, d2, d3, d4, hdb, hdf⟩ := five hA1
        obtain ⟨g0, g1, g2, g3, g4, hgb, hgf⟩ := five hF1
        have q2 := hdf 2
        have q3 := hdf 3
        have q4 := hdf 4
        have i1 : InW ab w1 := ⟨hdb⟩
        have i2 : InW wf.heap.size w1 := ⟨hgb⟩
        have i3 : InW tb w1 := ⟨lt_of_block hT1⟩
        clear hb hdf hgf
        have hT2 := blk_far (i := 2) (v := (.string ⟨name.toArray⟩)) hT1 hne
        have hA2 := blk_set (i := 2) (u := (.string ⟨name.toArray⟩)) hA1
        have hF2 := blk_far (i := 2) (v := (.string ⟨name.toArray⟩)) hF1 (Ne.symm hne2)
        have hK2 := keptA_trans hK1 (keptA_set (B := w0.heap.size) (tb := tb) (i := 2) (v := (.string ⟨name.toArray⟩)) (.inr rfl) hown)
        clear N hT1 hA1 hF1 hK1
        go_wp2_with fail
        clear d0 d1 d2 d3 d4 g0 g1 g2 g3 g4 i1 i2 i3 q2 q3 q4 hdb hgb
        refine (U2.out _ (hT2) (hK2)).mono ?_
        intro e w3 hr
        obtain ⟨rfl, hb⟩ := hr
        have hT3 := blk_moved (blk_set (hT2)) hb
        have hA3 := blk_moved (blk_far (hA2) hne.symm) hb
        have hF3 := blk_moved (blk_far (hF2) (Ne.symm hne3)) hb
        have hK3 := keptA_trans (hK2) (keptA_moved (B := w0.heap.size) (ab := ab) htown (Nat.le_trans hsz (KeptA.size (hK2))) hb)
        obtain ⟨d0, d1, d2, d3, d4, hdb, hdf⟩ := five hA3
        obtain ⟨g0, g1, g2, g3, g4, hgb, hgf⟩ := five hF3
        have q2 := hdf 2
        have q3 := hdf 3
        have q4 := hdf 4
        have i1 : InW ab w3 := ⟨hdb⟩
        have i2 : InW wf.heap.size w3 := ⟨hgb⟩
        have i3 : InW tb w3 := ⟨lt_of_block hT3⟩
        clear hb hdf hgf
        clear U2 hT2 hA2 hF2 hK2
        have hfinK := Lib.hid (keptA_trans hK3 (keptA_set (B := w0.heap.size) (tb := tb) (i := 4) (v := (.int .i64 n)) (.inr rfl) hown))
        have hfinT := Lib.hid (blk_far (i := 4) (v := (.int .i64 n)) hT3 hne)
        have hfinA := Lib.hid (blk_set (i := 4) (u := (.int .i64 n)) hA3)
        skip
        clear hT3 hA3 hF3 hK3 hTf hAf hKf
        go_wp2
        go_returns
        exact ⟨none, 0, rfl, hfinK.out, hfinT.out, hfinA.out, World.ownsRow_nil _ _ _ _⟩
theorem rest_any {w0 : World} {tb ab : Nat} {ao : Option Addr} {cap : Nat} {ts : List Tk} {k : Nat} {io : Option Addr} {il ic a : Nat} (h1 : 1 ≤ k) (h5 : k ≤ 5) (cond : List Nd) (w : World) (h : RestAt w0 tb ab ao cap ts k io il ic a w) :
    Calls Tryz.prog 36 #[.pointer (some ⟨tb, 0, none⟩), .pointer (some ⟨ab, 0, none⟩)] w (RestIs w0.heap.size tb ab ao cap ts (.slice io il ic) (restT ts cond k a) w) := by
  rcases (by omega : k = 1 ∨ (k = 2 ∨ k = 4) ∨ k = 3 ∨ k = 5) with h2 | h2 | h2 | h2
  · exact rest_set h2 cond w h
  · exact rest_event h2 cond w h
  · exact rest_send h2 cond w h
  · exact rest_log h2 cond w h
end Go.Proofs.YtmdjlngdpjjfiaaGreatDoor
