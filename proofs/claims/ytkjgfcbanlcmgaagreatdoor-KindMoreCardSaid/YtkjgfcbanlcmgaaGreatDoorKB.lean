/- kind.Of, kind.Is. -/
import Derived.Test.YtkjgfcbanlcmgaaGreatDoorKA
import Derived.Test.YtkjgfcbanlcmgaaGreatDoorXE
import Derived.WalkKit
import Derived.ProofKit
import Derived.OpenShut
import Derived.Handy
import Derived.BigQuiet
import Derived.Lib.Hide
import Derived.WalkSmall
import Derived.WalkLawsBesides
namespace Go.Proofs.YtkjgfcbanlcmgaaGreatDoor
open Go.RowKit
/-! ### Plain -/
theorem step_zero {i : Nat} {op op' : List Nat} {n : Nd} (h : stepR i op n = some op') (hc : n.op = 1 ∨ n.op = 2) : n.r = 0 := by
  unfold stepR at h
  split at h
  · cases h
  · split at h
    · rename_i hr
      unfold nright at hr
      rw [if_neg (by omega), if_neg (by omega), if_pos (by omega)] at hr
      simp only [Bool.and_eq_true, beq_iff_eq] at hr
      have e : cnt n.op = 1 := by unfold cnt; rw [if_pos hc]
      rw [hr.2, e, List.getD_eq_getElem?_getD, List.getElem?_eq_none (by rw [List.length_map, List.length_reverse, List.length_take]; omega), Option.getD_none]
    · cases h
theorem stack_zero : ∀ (ns : List Nd) (i : Nat) (op st : List Nat), stackL i op ns = some st → ∀ j (h : j < ns.length), (ns[j].op = 1 ∨ ns[j].op = 2) → ns[j].r = 0
  | [], _, _, _, _, j, hj => absurd hj (Nat.not_lt_zero _)
  | n :: r, i, op, st, h, j, hj => by
    rw [stackL] at h
    split at h
    · rename_i op' hs
      cases j with
      | zero => exact step_zero hs
      | succ j => exact stack_zero r (i + 1) op' st h j (by simpa using hj)
    · cases h
/-- A node of one part has the place 0 for its second one. -/
theorem right_zero {ns : List Nd} (h : rightT ns = true) : ∀ j (hj : j < ns.length), (ns[j].op = 1 ∨ ns[j].op = 2) → ns[j].r = 0 := by
  unfold rightT at h
  split at h
  · cases h
  · rw [rightL_stack] at h
    split at h
    · rename_i st hs
      exact stack_zero ns 0 [] st hs
    · cases h
theorem right_few {ns : List Nd} (h : rightT ns = true) : 0 < ns.length ∧ ns.length ≤ 32 := by
  refine ⟨(tree_of_right h).1, ?_⟩
  unfold rightT at h
  split at h
  · cases h
  · rename_i hs
    have h0 : sizeT ns = 0 := Decidable.not_not.1 hs
    unfold sizeT at h0
    split at h0
    · cases h0
    · omega
theorem takes_zero (op : Int) : takesB op 0 = false := by
  unfold takesB
  repeat' split
  all_goals rfl
theorem resK_zero (op a b : Int) : (resK op a b = 0) ↔ resB op a b = false := by
  constructor
  · intro h
    rcases hr : resB op a b
    · rfl
    · exfalso
      have ht := resB_takes hr
      have ha : a ≠ 0 := by rintro rfl; rw [takes_zero] at ht; cases ht
      unfold resK at h
      rw [hr, if_pos rfl] at h
      split at h
      · exact ha h
      · cases h
  · exact resK_f
theorem resB_one {op a b c : Int} (h : op = 1 ∨ op = 2) : resB op a b = resB op a c := by
  unfold resB
  have : aloneB op = true := by unfold aloneB; rcases h with rfl | rfl <;> rfl
  rw [this, Bool.true_or, Bool.true_or]
theorem resK_one {op a b c : Int} (h : op = 1 ∨ op = 2) : resK op a b = resK op a c := by
  unfold resK
  rw [resB_one (c := c) h]
/-- What a node comes to, as it is told. -/
def nodeV : Except Int Int → Value
  | .ok k => .tuple #[.int .i64 k, .int .i64 0]
  | .error x => .tuple #[.int .i64 0, .int .i64 x]
theorem own_op {vs : List (ByteArray × Int)} {ss : List ByteArray} {n : Nd} {a b : Int} (h1 : 1 ≤ n.op) (h2 : n.op ≤ 15) : nodeV (ownR vs ss n a b) = .tuple #[.int .i64 (if resB n.op a b then resK n.op a b else 0), .int .i64 (if resB n.op a b then 0 else 20)] := by
  unfold ownR
  rw [if_neg (by omega), if_neg (by omega), if_neg (by omega)]
  have e1 : resK n.op a (if n.op ≤ 2 then 0 else b) = resK n.op a b := by
    split
    · exact resK_one (by omega)
    · rfl
  rw [e1]
  rcases hr : resB n.op a b
  · rw [if_pos ((resK_zero _ _ _).2 hr)]
    rfl
  · rw [if_neg (fun h => by rw [(resK_zero _ _ _).1 h] at hr; cases hr)]
    rfl
/-- The kinds of the nodes ahead lie in a row of numbers. -/
def KsAt (w : World) (kb N : Nat) (ks : List Int) : Prop := ∃ cs : Array Value, w.heap[kb]? = some (.cells cs 3 (0, 0)) ∧ cs.size = N ∧ (∀ j (h : j < ks.length), cs[j]? = some (.int .i64 ks[j])) ∧ ∀ j, j < N → ∃ x : Int, cs[j]? = some (.int .i64 x)
theorem ks_keep {w w' : World} {kb N : Nat} {ks : List Int} (h : KsAt w kb N ks) (hb : Below w.heap.size w w') : KsAt w' kb N ks := by
  obtain ⟨cs, h1, h2⟩ := h
  exact ⟨cs, (hb.block kb (lt_of_block h1)).trans h1, h2⟩
theorem ks_set {w : World} {kb N : Nat} {ks : List Int} (h : KsAt w kb N ks) (hl : ks.length < N) (k : Int) : KsAt (w.setCell ⟨kb, ks.length, none⟩ (.int .i64 k)) kb N (ks ++ [k]) := by
  obtain ⟨cs, h1, h2, h3, h4⟩ := h
  refine ⟨_, blk_set h1, by rw [Array.size_setIfInBounds]; exact h2, fun j hj => ?_, fun j hj => ?_⟩
  · rw [List.length_append, List.length_singleton] at hj
    rcases Nat.lt_or_ge j ks.length with hlt | hge
    · rw [Array.getElem?_setIfInBounds_ne (by omega), List.getElem_append_left hlt]
      exact h3 j hlt
    · obtain rfl : j = ks.length := by omega
      rw [Array.getElem?_setIfInBounds_self_of_lt (by omega)]
      simp
  · by_cases he : ks.length = j
    · subst he
      exact ⟨k, Array.getElem?_setIfInBounds_self_of_lt (by omega)⟩
    · rw [Array.getElem?_setIfInBounds_ne he]
      exact h4 j hj
theorem ks_cell {w : World} {kb N : Nat} {ks : List Int} (h : KsAt w kb N ks) : kb < w.heap.size ∧ (∀ j, j < ks.length → w.cell? ⟨kb, j, none⟩ = some (.int .i64 (ks.getD j 0))) ∧ (∀ j, j < N → ∃ x : Int, w.cell? ⟨kb, j, none⟩ = some (.int .i64 x)) ∧ ∀ j, w.frozen? ⟨kb, j, none⟩ = false := by
  obtain ⟨cs, h1, h2, h3, h4⟩ := h
  refine ⟨lt_of_block h1, fun j hj => ?_, fun j hj => ?_, fun j => frozen_of_row w kb j _ _ h1⟩
  · rw [cell_of_row w kb _ _ _ _ h1, List.getD_eq_getElem?_getD, List.getElem?_eq_getElem hj]
    exact h3 j hj
  · obtain ⟨x, hx⟩ := h4 j hj
    exact ⟨x, by rw [cell_of_row w kb _ _ _ _ h1]; exact hx⟩
theorem linK_err {own : Nd → Int → Int → Except Int Int} {ks : List Int} {n : Nd} {r : List Nd} {x : Int} (h : own n (ks.getD n.l.toNat 0) (ks.getD n.r.toNat 0) = .error x) : linK own ks (n :: r) = .error (x, ks.length) := by rw [linK, h]
theorem linK_ok {own : Nd → Int → Int → Except Int Int} {ks : List Int} {n : Nd} {r : List Nd} {k : Int} (h : own n (ks.getD n.l.toNat 0) (ks.getD n.r.toNat 0) = .ok k) : linK own ks (n :: r) = linK own (ks ++ [k]) r := by rw [linK, h]
/-- What Of tells of nodes that may be. -/
def ofK (x : Except (Int × Nat) (List Int)) (n : Nat) : Value :=
  match x with
  | .error (x, _) => .tuple #[.int .i64 0, .int .i64 x]
  | .ok ks => .tuple #[.int .i64 (ks.getD (n - 1) 0), .int .i64 0]
/-! ### A node -/
section
variable (va : Option Addr) (vc : Nat) (vs : List (ByteArray × Int)) (sa : Option Addr) (sc : Nat) (ss : List ByteArray)
theorem knode_leaf (kv : Value) (n : Nd) (a b : Int) (hc : n.op = 0 ∨ n.op = 16 ∨ n.op = 17) (hvn : vs.length ≤ 1000000) (hsn : ss.length ≤ 1000) (w : World) (hv : VarsAt w va vs) (hs : StrsAt w sa ss) :
    Calls Tryz.prog 16 #[.agg #[.slice va vs.length vc, .slice sa ss.length sc], ndV n, kv] w (Ret (nodeV (ownR vs ss n a b)) w) := by
  have V := Lib.hid (fun wx hb => kvar_any va vc vs sa ss.length sc ⟨n.name.toArray⟩ hvn wx (vars_below (w' := wx) hv hb))
  have S := Lib.hid (fun wx hb => kstate_any va vs.length vc sa sc ss ⟨n.name.toArray⟩ hsn wx (strs_below (w' := wx) hs hb))
  have e : nodeV (ownR vs ss n a b) = if n.op = 0 then .tuple #[.int .i64 n.k, .int .i64 0] else if n.op = 16 then lookV vs ⟨n.name.toArray⟩ else stateV ss ⟨n.name.toArray⟩ := by
    unfold ownR
    rcases hc with h | h | h
    · rw [if_pos h, if_pos h]; rfl
    · have h0 : ¬ n.op = 0 := by omega
      simp only [if_neg h0, if_pos h]
      unfold lookV
      cases findV vs ⟨n.name.toArray⟩ <;> rfl
    · have h0 : ¬ n.op = 0 := by omega
      have h16 : ¬ n.op = 16 := by omega
      simp only [if_neg h0, if_neg h16, if_pos h]
      unfold stateV
      cases hasB ss ⟨n.name.toArray⟩ <;> rfl
  rw [e]
  unfold ndV
  obtain ⟨op, k, nn, s, name, l, r⟩ := n
  simp only at hc V S ⊢
  clear hv hs e
  have hl : ∃ x y : Int, lookV vs ⟨name.toArray⟩ = .tuple #[.int .i64 x, .int .i64 y] := by
    unfold lookV
    cases findV vs ⟨name.toArray⟩ <;> exact ⟨_, _, rfl⟩
  obtain ⟨x, y, hl⟩ := hl
  have hst : ∃ x y : Int, stateV ss ⟨name.toArray⟩ = .tuple #[.int .i64 x, .int .i64 y] := ⟨_, _, rfl⟩
  obtain ⟨x2, y2, hst⟩ := hst
  rw [hl] at V ⊢
  rw [hst] at S ⊢
  clear hl hst
  rcases hc with rfl | rfl | rfl
  all_goals
    go_enter Tryz.func16, Tryz.ntmps16
    go_wp2_with (first | ((with_reducible refine (V.out _ (by repeat' (first | (with_reducible exact Below.refl _ _) | (with_reducible assumption) | (with_reducible refine Below.alloc ?_ ?_ _) | (with_reducible refine Below.drew ?_) | (with_reducible refine belowN ?_ _) | (with_reducible refine Below.setCell ?_ ?_ _) | (with_reducible refine belowG ?_ ?_) | (with_reducible exact Nat.le_refl _) | (with_reducible refine le_sizeG ?_) | (with_reducible refine le_sizeA ?_) | (with_reducible refine le_sizeC ?_) | (with_reducible refine le_sizeD ?_) | (with_reducible refine le_sizeN ?_) | go_size | (simp [go_sem]; done)))).mono ?_); intro e w1 hr; obtain ⟨rfl, p, rfl⟩ := hr.out; clear hr) | ((with_reducible refine (S.out _ (by repeat' (first | (with_reducible exact Below.refl _ _) | (with_reducible assumption) | (with_reducible refine Below.alloc ?_ ?_ _) | (with_reducible refine Below.drew ?_) | (with_reducible refine belowN ?_ _) | (with_reducible refine Below.setCell ?_ ?_ _) | (with_reducible refine belowG ?_ ?_) | (with_reducible exact Nat.le_refl _) | (with_reducible refine le_sizeG ?_) | (with_reducible refine le_sizeA ?_) | (with_reducible refine le_sizeC ?_) | (with_reducible refine le_sizeD ?_) | (with_reducible refine le_sizeN ?_) | go_size | (simp [go_sem]; done)))).mono ?_); intro e w1 hr; obtain ⟨rfl, p, rfl⟩ := hr.out; clear hr))
    go_returns
    exact ⟨rfl, by repeat' (first | (with_reducible exact Below.refl _ _) | (with_reducible assumption) | (with_reducible refine Below.alloc ?_ ?_ _) | (with_reducible refine Below.drew ?_) | (with_reducible refine belowN ?_ _) | (with_reducible refine Below.setCell ?_ ?_ _) | (with_reducible refine belowG ?_ ?_) | (with_reducible exact Nat.le_refl _) | (with_reducible refine le_sizeG ?_) | (with_reducible refine le_sizeA ?_) | (with_reducible refine le_sizeC ?_) | (with_reducible refine le_sizeD ?_) | (with_reducible refine le_sizeN ?_) | go_size | (simp [go_sem]; done))⟩
set_option maxRecDepth 100000 in
set_option maxHeartbeats 1000000 in
theorem knode_op (n : Nd) (a b N : Nat) (x y : Int) (kb : Nat) (h1 : 1 ≤ n.op) (h2 : n.op ≤ 15) (hl : n.l = (a : Int)) (hr : n.r = (b : Int)) (ha : a < N) (hb : b < N) (w : World)
    (ca : w.cell? ⟨kb, a, none⟩ = some (.int .i64 x)) (cb : w.cell? ⟨kb, b, none⟩ = some (.int .i64 y)) :
    Calls Tryz.prog 16 #[.agg #[.slice va vs.length vc, .slice sa ss.length sc], ndV n, .slice (some ⟨kb, 0, none⟩) N N] w (Ret (nodeV (ownR vs ss n x y)) w) := by
  rw [own_op h1 h2]
  have R := Lib.hid (fun wx => result_any n.op x y wx)
  generalize resB n.op x y = ok at *
  generalize resK n.op x y = k at *
  unfold ndV
  obtain ⟨op, k0, nn, s, name, l, r⟩ := n
  simp only at h1 h2 hl hr R ⊢
  subst hl hr
  have i1 : InW kb w := ⟨World.block_lt_of_cell? _ _ ca⟩
  have o0 : (op == 0) = false := beq_eq_false_iff_ne.mpr (by omega)
  have o16 : (op == 16) = false := beq_eq_false_iff_ne.mpr (by omega)
  have o17 : (op == 17) = false := beq_eq_false_iff_ne.mpr (by omega)
  have haI : (a : Int) < (N : Int) := by omega
  have hbI : (b : Int) < (N : Int) := by omega
  clear h1 h2
  cases ok
  all_goals
    go_enter Tryz.func16, Tryz.ntmps16
    go_wp2_with fail
    (refine wp_region_G (by kernel_rfl) (by kernel_rfl) ?_; (repeat (go_big_quiet_step (exact quietGW ((R.out _))))); refine wpQuiet_nil ?_; intro _ hw'; obtain ⟨pg, hw''⟩ := hw'; subst hw'')
    go_wp2
    go_returns
    exact ⟨rfl, by repeat' (first | (with_reducible exact Below.refl _ _) | (with_reducible assumption) | (with_reducible refine Below.alloc ?_ ?_ _) | (with_reducible refine Below.drew ?_) | (with_reducible refine belowN ?_ _) | (with_reducible refine Below.setCell ?_ ?_ _) | (with_reducible refine belowG ?_ ?_) | (with_reducible exact Nat.le_refl _) | (with_reducible refine le_sizeG ?_) | (with_reducible refine le_sizeA ?_) | (with_reducible refine le_sizeC ?_) | (with_reducible refine le_sizeD ?_) | (with_reducible refine le_sizeN ?_) | go_size | (simp [go_sem]; done))⟩
end
end Go.Proofs.YtkjgfcbanlcmgaaGreatDoor

