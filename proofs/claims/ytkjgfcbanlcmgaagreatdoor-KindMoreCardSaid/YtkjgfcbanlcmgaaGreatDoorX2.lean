/- expr's small functions: how tightly, how many parts, an operation's node. -/
import Derived.Test.YtkjgfcbanlcmgaaGreatDoorX1
import Derived.WalkKit
import Derived.ProofKit
import Derived.OpenShut
import Derived.Handy
import Derived.BigQuiet
import Derived.Deep.RegionHeld3
import Derived.Lib.Hide
import Derived.WalkSmall
import Derived.WalkLawsBesides
namespace Go.Proofs.YtkjgfcbanlcmgaaGreatDoor
open Go.RowKit
theorem opx_cases (op : Int) : (op = -1 ∨ op = 1 ∨ op = 2 ∨ op = 3 ∨ op = 4 ∨ op = 5 ∨ op = 6 ∨ op = 7 ∨ op = 8 ∨ op = 9 ∨ op = 10 ∨ op = 11 ∨ op = 12 ∨ op = 13 ∨ op = 14 ∨ op = 15) ∨ (¬ op = -1 ∧ ¬ op = 1 ∧ ¬ op = 2 ∧ ¬ op = 3 ∧ ¬ op = 4 ∧ ¬ op = 5 ∧ ¬ op = 6 ∧ ¬ op = 7 ∧ ¬ op = 8 ∧ ¬ op = 9 ∧ ¬ op = 10 ∧ ¬ op = 11 ∧ ¬ op = 12 ∧ ¬ op = 13 ∧ ¬ op = 14 ∧ ¬ op = 15) := by omega
set_option maxHeartbeats 2000000 in
theorem tight_any (op : Int) (w : World) : Calls Tryz.prog 64 #[.int .i64 op] w (RetW (.int .i64 (tightI op)) w) := by
  rcases opx_cases op with h | ⟨h0, h1, h2, h3, h4, h5, h6, h7, h8, h9, h10, h11, h12, h13, h14, h15⟩
  · rcases h with rfl | rfl | rfl | rfl | rfl | rfl | rfl | rfl | rfl | rfl | rfl | rfl | rfl | rfl | rfl | rfl
    all_goals
      go_enter Tryz.func64, Tryz.ntmps64
      go_wp2
      go_returns
      exact ⟨rfl, rfl⟩
  · have e : tightI op = 6 := by unfold tightI; repeat' split; all_goals omega
    rw [e]
    clear e h1 h2
    go_enter Tryz.func64, Tryz.ntmps64
    go_wp2
    go_returns
    exact ⟨rfl, rfl⟩
theorem left_any (op : Int) (w : World) : Calls Tryz.prog 63 #[.int .i64 op] w (RetW (.int .i64 (leftI op)) w) := by
  have T := fun wx => Lib.hid (tight_any op wx)
  unfold leftI
  generalize tightI op = t at *
  replace T := Lib.hid T
  by_cases h : t = 3
  · subst h
    go_enter Tryz.func63, Tryz.ntmps63
    go_wp2_with ((with_reducible refine ((T.out _).out).mono ?_); rintro e w1 ⟨rfl, rfl⟩)
    go_returns
    exact ⟨rfl, rfl⟩
  · rw [if_neg h]
    go_enter Tryz.func63, Tryz.ntmps63
    go_wp2_with ((with_reducible refine ((T.out _).out).mono ?_); rintro e w1 ⟨rfl, rfl⟩)
    go_returns
    exact ⟨rfl, rfl⟩
theorem count_any (op : Int) (w : World) : Calls Tryz.prog 19 #[.int .i64 op] w (RetW (.int .i64 (cnt op : Int)) w) := by
  by_cases h : op = 1 ∨ op = 2
  · rcases h with rfl | rfl
    all_goals
      go_enter Tryz.func19, Tryz.ntmps19
      go_wp2
      go_returns
      exact ⟨rfl, rfl⟩
  · have h1 : (op == 1) = false := beq_eq_false_iff_ne.mpr fun e => h (.inl e)
    have h2 : (op == 2) = false := beq_eq_false_iff_ne.mpr fun e => h (.inr e)
    unfold cnt
    rw [if_neg h]
    clear h
    by_cases h3 : 3 ≤ op
    · by_cases h4 : op ≤ 15
      · rw [if_pos ⟨h3, h4⟩]
        go_enter Tryz.func19, Tryz.ntmps19
        go_wp2
        go_returns
        exact ⟨rfl, rfl⟩
      · rw [if_neg (fun h => h4 h.2)]
        go_enter Tryz.func19, Tryz.ntmps19
        go_wp2
        go_returns
        exact ⟨rfl, rfl⟩
    · rw [if_neg (fun h => h3 h.1)]
      go_enter Tryz.func19, Tryz.ntmps19
      go_wp2
      go_returns
      exact ⟨rfl, rfl⟩
/-- Numbers ps lie where a slice says. -/
def Ints (w : World) (ao : Option Addr) (ps : List Int) : Prop := ∀ i (h : i < ps.length), ∃ g o, ao = some ⟨g, o, none⟩ ∧ w.cell? ⟨g, o + i, none⟩ = some (.int .i64 ps[i]) ∧ g < w.heap.size
def opnI (op : Int) (ps : List Int) : Nd := ⟨op, 0, 0, [], [], ps.getD 0 0, ps.getD 1 0⟩
theorem opn_I (op : Int) (ps : List Nat) : opn op ps = opnI op (ps.map fun (p : Nat) => (p : Int)) := by
  unfold opn opnI
  congr 1
  · cases ps <;> rfl
  · match ps with
    | [] => rfl
    | [_] => rfl
    | _ :: _ :: _ => rfl
set_option maxHeartbeats 1000000 in
theorem operation_any (op : Int) (ao : Option Addr) (cap : Nat) (ps : List Int) (hn : ps.length ≤ 2000000) (w : World) (hp : Ints w ao ps) :
    Calls Tryz.prog 29 #[.int .i64 op, .slice ao ps.length cap] w (Ret (ndV (opnI op ps)) w) := by
  match ps with
  | [] =>
    clear hp
    go_enter Tryz.func29, Tryz.ntmps29
    go_wp2
    go_returns
    exact ⟨rfl, by repeat' (first | (with_reducible exact Below.refl _ _) | (with_reducible assumption) | (with_reducible refine Below.alloc ?_ ?_ _) | (with_reducible refine Below.drew ?_) | (with_reducible refine belowN ?_ _) | (with_reducible refine Below.setCell ?_ ?_ _) | (with_reducible refine belowG ?_ ?_) | (with_reducible exact Nat.le_refl _) | (with_reducible refine le_sizeG ?_) | (with_reducible refine le_sizeA ?_) | (with_reducible refine le_sizeC ?_) | (with_reducible refine le_sizeD ?_) | (with_reducible refine le_sizeN ?_) | go_size | (simp [go_sem]; done))⟩
  | [x] =>
    obtain ⟨g, o, rfl, h0, hb⟩ := hp 0 (by simp)
    simp only [List.getElem_cons_zero, Nat.add_zero] at h0
    clear hp
    have i1 : InW g w := ⟨hb⟩
    go_enter Tryz.func29, Tryz.ntmps29
    go_wp2
    go_returns
    exact ⟨rfl, by repeat' (first | (with_reducible exact Below.refl _ _) | (with_reducible assumption) | (with_reducible refine Below.alloc ?_ ?_ _) | (with_reducible refine Below.drew ?_) | (with_reducible refine belowN ?_ _) | (with_reducible refine Below.setCell ?_ ?_ _) | (with_reducible refine belowG ?_ ?_) | (with_reducible exact Nat.le_refl _) | (with_reducible refine le_sizeG ?_) | (with_reducible refine le_sizeA ?_) | (with_reducible refine le_sizeC ?_) | (with_reducible refine le_sizeD ?_) | (with_reducible refine le_sizeN ?_) | go_size | (simp [go_sem]; done))⟩
  | x :: y :: r =>
    obtain ⟨g, o, rfl, h0, hb⟩ := hp 0 (by simp)
    obtain ⟨g', o', e, h1, _⟩ := hp 1 (by simp)
    cases e
    simp only [List.getElem_cons_zero, List.getElem_cons_succ, Nat.add_zero] at h0 h1
    simp only [List.length_cons] at hn ⊢
    clear hp
    generalize r.length = n at *
    have i1 : InW g w := ⟨hb⟩
    go_enter Tryz.func29, Tryz.ntmps29
    go_wp2
    go_returns
    exact ⟨rfl, by repeat' (first | (with_reducible exact Below.refl _ _) | (with_reducible assumption) | (with_reducible refine Below.alloc ?_ ?_ _) | (with_reducible refine Below.drew ?_) | (with_reducible refine belowN ?_ _) | (with_reducible refine Below.setCell ?_ ?_ _) | (with_reducible refine belowG ?_ ?_) | (with_reducible exact Nat.le_refl _) | (with_reducible refine le_sizeG ?_) | (with_reducible refine le_sizeA ?_) | (with_reducible refine le_sizeC ?_) | (with_reducible refine le_sizeD ?_) | (with_reducible refine le_sizeN ?_) | go_size | (simp [go_sem]; done))⟩
end Go.Proofs.YtkjgfcbanlcmgaaGreatDoor

