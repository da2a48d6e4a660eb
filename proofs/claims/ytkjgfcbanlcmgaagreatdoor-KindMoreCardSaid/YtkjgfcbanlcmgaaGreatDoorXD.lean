/- May nodes be an expression? -/
import Derived.Test.YtkjgfcbanlcmgaaGreatDoorXC
import Derived.WalkKit
import Derived.ProofKit
import Derived.OpenShut
import Derived.Handy
import Derived.BigQuiet
import Derived.OwnWalk
import Derived.Deep.AppendLies
import Derived.Lib.Hide
import Derived.WalkSmall
import Derived.WalkLawsBesides
namespace Go.Proofs.YtkjgfcbanlcmgaaGreatDoor
open Go.RowKit
/-- May a node be that has such parts? -/
def nright (n : Nd) (ps : List Int) : Bool :=
  if n.op = 0 then (rightB n.k n.n ⟨n.s.toArray⟩ && (!(n.k == 1) || decide (0 ≤ n.n))) && (n.name == [] && n.l == 0 && n.r == 0)
  else if n.op = 16 ∨ n.op = 17 then nmB n.name && (n.k == 0 && n.n == 0 && n.s == [] && n.l == 0 && n.r == 0)
  else if 1 ≤ n.op ∧ n.op ≤ 15 then n.k == 0 && n.n == 0 && n.s == [] && n.name == [] && n.l == ps.getD 0 0 && n.r == ps.getD 1 0
  else false
set_option maxRecDepth 100000 in
set_option maxHeartbeats 4000000 in
theorem nright_op (n : Nd) (ao : Option Addr) (cap : Nat) (ps : List Int) (h0 : ¬ n.op = 0) (h16 : ¬ n.op = 16) (h17 : ¬ n.op = 17) (hl : ps.length ≤ 2) (w : World) (hp : Ints w ao ps) :
    Calls Tryz.prog 20 #[ndV n, .slice ao ps.length cap] w (Ret (.bool (nright n ps)) w) := by
  have O := fun wx (hk : Below w.heap.size w wx) => Lib.hid (operation_any n.op ao cap ps (by omega) wx (fun i hi => by
    obtain ⟨g', o', e', hc', hg'⟩ := hp i hi
    exact ⟨g', o', e', (hk.cell (p := ⟨g', _, none⟩) hg').trans hc', Nat.lt_of_lt_of_le hg' hk.size⟩))
  unfold ndV opnI at O
  unfold ndV nright
  simp only at O
  replace O := Lib.hid O
  rw [if_neg h0, if_neg (by omega)]
  clear hp
  have b0 : (n.op == 0) = false := beq_eq_false_iff_ne.mpr h0
  have b16 : (n.op == 16) = false := beq_eq_false_iff_ne.mpr h16
  have b17 : (n.op == 17) = false := beq_eq_false_iff_ne.mpr h17
  clear h0 h16 h17
  generalize ps.length = c at *
  generalize ps.getD 0 0 = p0 at *
  generalize ps.getD 1 0 = p1 at *
  by_cases h1 : 1 ≤ n.op
  · by_cases h2 : n.op ≤ 15
    · rw [if_pos ⟨h1, h2⟩]
      go_enter Tryz.func20, Tryz.ntmps20
      go_wp2_with ((with_reducible refine ((O.out _ (by repeat' (first | (with_reducible exact Below.refl _ _) | (with_reducible assumption) | (with_reducible refine Below.alloc ?_ ?_ _) | (with_reducible refine Below.drew ?_) | (with_reducible refine belowN ?_ _) | (with_reducible refine Below.setCell ?_ ?_ _) | (with_reducible refine belowG ?_ ?_) | (with_reducible exact Nat.le_refl _) | (with_reducible refine le_sizeG ?_) | (with_reducible refine le_sizeA ?_) | (with_reducible refine le_sizeC ?_) | (with_reducible refine le_sizeD ?_) | (with_reducible refine le_sizeN ?_) | go_size | (simp [go_sem]; done)))).out).mono ?_); intro e w1 hr; obtain ⟨rfl, p, rfl⟩ := hr.out; clear hr)
      all_goals
        go_returns
        refine ⟨ret_bl ?_, by repeat' (first | (with_reducible exact Below.refl _ _) | (with_reducible assumption) | (with_reducible refine Below.alloc ?_ ?_ _) | (with_reducible refine Below.drew ?_) | (with_reducible refine belowN ?_ _) | (with_reducible refine Below.setCell ?_ ?_ _) | (with_reducible refine belowG ?_ ?_) | (with_reducible exact Nat.le_refl _) | (with_reducible refine le_sizeG ?_) | (with_reducible refine le_sizeA ?_) | (with_reducible refine le_sizeC ?_) | (with_reducible refine le_sizeD ?_) | (with_reducible refine le_sizeN ?_) | go_size | (simp [go_sem]; done))⟩
        first | (simp [*]; done) | (simp_all; done) | (rw [show decide (0 ≤ n.n) = false from decide_eq_false (by omega)]; simp [*]; done)
    · rw [if_neg (fun h => h2 h.2)]
      go_enter Tryz.func20, Tryz.ntmps20
      go_wp2_with ((with_reducible refine ((O.out _ (by repeat' (first | (with_reducible exact Below.refl _ _) | (with_reducible assumption) | (with_reducible refine Below.alloc ?_ ?_ _) | (with_reducible refine Below.drew ?_) | (with_reducible refine belowN ?_ _) | (with_reducible refine Below.setCell ?_ ?_ _) | (with_reducible refine belowG ?_ ?_) | (with_reducible exact Nat.le_refl _) | (with_reducible refine le_sizeG ?_) | (with_reducible refine le_sizeA ?_) | (with_reducible refine le_sizeC ?_) | (with_reducible refine le_sizeD ?_) | (with_reducible refine le_sizeN ?_) | go_size | (simp [go_sem]; done)))).out).mono ?_); intro e w1 hr; obtain ⟨rfl, p, rfl⟩ := hr.out; clear hr)
      go_returns
      exact ⟨rfl, by repeat' (first | (with_reducible exact Below.refl _ _) | (with_reducible assumption) | (with_reducible refine Below.alloc ?_ ?_ _) | (with_reducible refine Below.drew ?_) | (with_reducible refine belowN ?_ _) | (with_reducible refine Below.setCell ?_ ?_ _) | (with_reducible refine belowG ?_ ?_) | (with_reducible exact Nat.le_refl _) | (with_reducible refine le_sizeG ?_) | (with_reducible refine le_sizeA ?_) | (with_reducible refine le_sizeC ?_) | (with_reducible refine le_sizeD ?_) | (with_reducible refine le_sizeN ?_) | go_size | (simp [go_sem]; done))⟩
  · rw [if_neg (fun h => h1 h.1)]
    go_enter Tryz.func20, Tryz.ntmps20
    go_wp2_with ((with_reducible refine ((O.out _ (by repeat' (first | (with_reducible exact Below.refl _ _) | (with_reducible assumption) | (with_reducible refine Below.alloc ?_ ?_ _) | (with_reducible refine Below.drew ?_) | (with_reducible refine belowN ?_ _) | (with_reducible refine Below.setCell ?_ ?_ _) | (with_reducible refine belowG ?_ ?_) | (with_reducible exact Nat.le_refl _) | (with_reducible refine le_sizeG ?_) | (with_reducible refine le_sizeA ?_) | (with_reducible refine le_sizeC ?_) | (with_reducible refine le_sizeD ?_) | (with_reducible refine le_sizeN ?_) | go_size | (simp [go_sem]; done)))).out).mono ?_); intro e w1 hr; obtain ⟨rfl, p, rfl⟩ := hr.out; clear hr)
    go_returns
    exact ⟨rfl, by repeat' (first | (with_reducible exact Below.refl _ _) | (with_reducible assumption) | (with_reducible refine Below.alloc ?_ ?_ _) | (with_reducible refine Below.drew ?_) | (with_reducible refine belowN ?_ _) | (with_reducible refine Below.setCell ?_ ?_ _) | (with_reducible refine belowG ?_ ?_) | (with_reducible exact Nat.le_refl _) | (with_reducible refine le_sizeG ?_) | (with_reducible refine le_sizeA ?_) | (with_reducible refine le_sizeC ?_) | (with_reducible refine le_sizeD ?_) | (with_reducible refine le_sizeN ?_) | go_size | (simp [go_sem]; done))⟩
set_option maxRecDepth 100000 in
set_option maxHeartbeats 4000000 in
theorem nright_lit (n : Nd) (ao : Option Addr) (cap : Nat) (h0 : n.op = 0) (hs : n.s.length ≤ 2000000) (w : World) :
    Calls Tryz.prog 20 #[ndV n, .slice ao 0 cap] w (Ret (.bool (nright n [])) w) := by
  have O := fun wx => Lib.hid (operation_any 0 ao cap [] (by simp) wx (fun i hi => absurd hi (Nat.not_lt_zero _)))
  have R := fun wx => Lib.hid (right_any n.k n.n ⟨n.s.toArray⟩ wx (by unfold maxLen; rw [Lib.size_eq]; simp; omega))
  unfold ndV opnI at O
  unfold ndV nright
  simp only [List.getD_nil, List.length_nil] at O
  rw [h0, if_pos rfl]
  generalize rightB n.k n.n ⟨n.s.toArray⟩ = b at *
  replace O := Lib.hid O
  replace R := Lib.hid R
  by_cases hn : 0 ≤ n.n
  · cases b
    all_goals
      go_enter Tryz.func20, Tryz.ntmps20
      go_wp2_with (first | ((with_reducible refine ((O.out _).out).mono ?_); intro e w1 hr; obtain ⟨rfl, p, rfl⟩ := hr.out; clear hr) | ((with_reducible refine ((R.out _).out).mono ?_); intro e w1 hr; obtain ⟨rfl, p, rfl⟩ := hr.out; clear hr))
      all_goals
        go_returns
        refine ⟨ret_bl ?_, by repeat' (first | (with_reducible exact Below.refl _ _) | (with_reducible assumption) | (with_reducible refine Below.alloc ?_ ?_ _) | (with_reducible refine Below.drew ?_) | (with_reducible refine belowN ?_ _) | (with_reducible refine Below.setCell ?_ ?_ _) | (with_reducible refine belowG ?_ ?_) | (with_reducible exact Nat.le_refl _) | (with_reducible refine le_sizeG ?_) | (with_reducible refine le_sizeA ?_) | (with_reducible refine le_sizeC ?_) | (with_reducible refine le_sizeD ?_) | (with_reducible refine le_sizeN ?_) | go_size | (simp [go_sem]; done))⟩
        first | (simp [*]; done) | (simp_all; done) | (rw [show decide (0 ≤ n.n) = false from decide_eq_false (by omega)]; simp [*]; done)
  · cases b
    all_goals
      go_enter Tryz.func20, Tryz.ntmps20
      go_wp2_with (first | ((with_reducible refine ((O.out _).out).mono ?_); intro e w1 hr; obtain ⟨rfl, p, rfl⟩ := hr.out; clear hr) | ((with_reducible refine ((R.out _).out).mono ?_); intro e w1 hr; obtain ⟨rfl, p, rfl⟩ := hr.out; clear hr))
      all_goals
        go_returns
        refine ⟨ret_bl ?_, by repeat' (first | (with_reducible exact Below.refl _ _) | (with_reducible assumption) | (with_reducible refine Below.alloc ?_ ?_ _) | (with_reducible refine Below.drew ?_) | (with_reducible refine belowN ?_ _) | (with_reducible refine Below.setCell ?_ ?_ _) | (with_reducible refine belowG ?_ ?_) | (with_reducible exact Nat.le_refl _) | (with_reducible refine le_sizeG ?_) | (with_reducible refine le_sizeA ?_) | (with_reducible refine le_sizeC ?_) | (with_reducible refine le_sizeD ?_) | (with_reducible refine le_sizeN ?_) | go_size | (simp [go_sem]; done))⟩
        first | (simp [*]; done) | (simp_all; done) | (rw [show decide (0 ≤ n.n) = false from decide_eq_false (by omega)]; simp [*]; done)
set_option maxRecDepth 100000 in
set_option maxHeartbeats 4000000 in
theorem nright_name (n : Nd) (ao : Option Addr) (cap : Nat) (h0 : n.op = 16 ∨ n.op = 17) (hs : n.name.length ≤ 2000000) (w : World) (hw : Lb w) :
    Calls Tryz.prog 20 #[ndV n, .slice ao 0 cap] w (Ret (.bool (nright n [])) w) := by
  have O := fun wx => Lib.hid (operation_any n.op ao cap [] (by simp) wx (fun i hi => absurd hi (Nat.not_lt_zero _)))
  have N := fun wx h => Lib.hid (tname_any ⟨n.name.toArray⟩ (by rw [Lib.size_eq]; simpa using hs) wx (lb_below hw h))
  simp only at N
  unfold ndV opnI at O
  unfold ndV nright
  simp only [List.getD_nil, List.length_nil] at O
  rw [if_neg (by omega), if_pos h0]
  generalize nmB n.name = b at *
  replace O := Lib.hid O
  replace N := Lib.hid N
  clear hw
  rcases h0 with h0 | h0
  all_goals
    rw [h0] at O ⊢
    cases b
    all_goals
      go_enter Tryz.func20, Tryz.ntmps20
      go_wp2_with (first | ((with_reducible refine ((O.out _).out).mono ?_); intro e w1 hr; obtain ⟨rfl, p, rfl⟩ := hr.out; clear hr) | ((with_reducible refine ((N.out _ (by repeat' (first | (with_reducible exact Below.refl _ _) | (with_reducible assumption) | (with_reducible refine Below.alloc ?_ ?_ _) | (with_reducible refine Below.drew ?_) | (with_reducible refine belowN ?_ _) | (with_reducible refine Below.setCell ?_ ?_ _) | (with_reducible refine belowG ?_ ?_) | (with_reducible exact Nat.le_refl _) | (with_reducible refine le_sizeG ?_) | (with_reducible refine le_sizeA ?_) | (with_reducible refine le_sizeC ?_) | (with_reducible refine le_sizeD ?_) | (with_reducible refine le_sizeN ?_) | go_size | (simp [go_sem]; done)))).out).mono ?_); intro e w1 hr; obtain ⟨rfl, p, rfl⟩ := hr.out; clear hr))
      all_goals
        go_returns
        refine ⟨ret_bl ?_, by repeat' (first | (with_reducible exact Below.refl _ _) | (with_reducible assumption) | (with_reducible refine Below.alloc ?_ ?_ _) | (with_reducible refine Below.drew ?_) | (with_reducible refine belowN ?_ _) | (with_reducible refine Below.setCell ?_ ?_ _) | (with_reducible refine belowG ?_ ?_) | (with_reducible exact Nat.le_refl _) | (with_reducible refine le_sizeG ?_) | (with_reducible refine le_sizeA ?_) | (with_reducible refine le_sizeC ?_) | (with_reducible refine le_sizeD ?_) | (with_reducible refine le_sizeN ?_) | go_size | (simp [go_sem]; done))⟩
        first | (simp [*]; done) | (simp_all; done) | (rw [show decide (0 ≤ n.n) = false from decide_eq_false (by omega)]; simp [*]; done)
theorem nright_any (n : Nd) (ao : Option Addr) (cap : Nat) (ps : List Int) (hl : ps.length = cnt n.op) (hs : n.s.length ≤ 2000000) (hm : n.name.length ≤ 2000000) (w : World) (hp : Ints w ao ps) (hw : Lb w) :
    Calls Tryz.prog 20 #[ndV n, .slice ao ps.length cap] w (Ret (.bool (nright n ps)) w) := by
  by_cases h0 : n.op = 0
  · have : ps = [] := List.eq_nil_of_length_eq_zero (by rw [hl, h0]; rfl)
    subst this
    exact nright_lit n ao cap h0 hs w
  · by_cases h1 : n.op = 16 ∨ n.op = 17
    · have : ps = [] := List.eq_nil_of_length_eq_zero (by rw [hl]; rcases h1 with h | h <;> rw [h] <;> rfl)
      subst this
      exact nright_name n ao cap h1 hm w hw
    · exact nright_op n ao cap ps h0 (fun h => h1 (.inl h)) (fun h => h1 (.inr h)) (by
        rw [hl]
        unfold cnt
        (repeat' split) <;> omega) w hp
/-- May nodes be an expression, from the i-th on, where such parts wait? -/
def rightL : Nat → List Nat → List Nd → Bool
  | _, op, [] => op.length == 1
  | i, op, n :: r => if op.length < cnt n.op then false else if nright n ((op.take (cnt n.op)).reverse.map fun (p : Nat) => (p : Int)) then rightL (i + 1) (i :: op.drop (cnt n.op)) r else false
def rightT (ns : List Nd) : Bool := if sizeT ns ≠ 0 then false else rightL 0 [] ns
theorem owns_takeV {w : World} {B e s n k oc : Nat} {oa : Option Addr} {xs : List Value} (h : w.ownsRow B e s (.slice oa n oc) n xs) (hk : k ≤ n) : w.ownsRow B e s (.slice oa k oc) k (xs.take (k * s)) := by
  rcases h.2 with ⟨hv, hn⟩ | ⟨g, cap, cur, hv, _⟩
  · cases hv
    obtain rfl : k = 0 := by omega
    rw [Nat.zero_mul, List.take_zero]
    exact World.ownsRow_nil _ _ _ _
  · cases hv
    exact owns_take h hk
theorem rightL_len {i : Nat} {op : List Nat} {n : Nd} {r : List Nd} (h : op.length < cnt n.op) : rightL i op (n :: r) = false := by rw [rightL, if_pos h]
theorem rightL_no {i : Nat} {op : List Nat} {n : Nd} {r : List Nd} (h : ¬ op.length < cnt n.op) (hr : nright n ((op.take (cnt n.op)).reverse.map fun (p : Nat) => (p : Int)) = false) : rightL i op (n :: r) = false := by rw [rightL, if_neg h, hr]; rfl
theorem rightL_go {i : Nat} {op : List Nat} {n : Nd} {r : List Nd} (h : ¬ op.length < cnt n.op) (hr : nright n ((op.take (cnt n.op)).reverse.map fun (p : Nat) => (p : Int)) = true) : rightL i op (n :: r) = rightL (i + 1) (i :: op.drop (cnt n.op)) r := by rw [rightL, if_neg h, hr]; rfl
theorem parts_lieV {w : World} {B e oc : Nat} {oa : Option Addr} {l : List Nat} {c f : Nat} (hf : f + c = l.length) (h : w.ownsRow B e 1 (.slice oa l.length oc) l.length (natsC l.reverse)) (h0 : 0 < c) :
    ∃ g, oa = some ⟨g, 0, none⟩ ∧ f + c ≤ oc ∧ Ints w (some ⟨g, f, none⟩) ((l.take c).reverse.map fun (p : Nat) => (p : Int)) := by
  obtain ⟨g, cap, hv, hg, hcap, _, hc⟩ := own_head h (by omega)
  cases hv
  exact ⟨g, rfl, by omega, parts_lie hf hc hg⟩
end Go.Proofs.YtkjgfcbanlcmgaaGreatDoor

