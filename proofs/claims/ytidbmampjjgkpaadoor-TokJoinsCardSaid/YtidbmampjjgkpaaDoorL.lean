import Derived.Test.YtidbmampjjgkpaaDoorB
import Derived.WalkKit
import Derived.ProofKit
import Derived.OpenShut
import Derived.Handy
import Derived.BigQuiet
import Derived.Lib.Hide
import Derived.WalkLawsBesides
namespace Go.Proofs.YtidbmampjjgkpaaDoor
open Go.RowKit
theorem order_n (k : Int) (hk : (k == 3) = false) (n : Int) (s : ByteArray) (k2 n2 : Int) (s2 : ByteArray) (w : World) : Calls Tryd.prog 47 #[.agg #[.int .i64 k, .int .i64 n, .string s], .agg #[.int .i64 k2, .int .i64 n2, .string s2]] w (Ret (.int .i64 (cmpI n n2)) w) := by
  go_enter Tryd.func47, Tryd.ntmps47
  go_wp2_with ((with_reducible refine (cmpI_any _ _ _).mono ?_); rintro e w1 ⟨rfl, rfl⟩)
  go_returns
  exact ⟨rfl, by repeat' (first | (with_reducible exact Below.refl _ _) | (with_reducible assumption) | (with_reducible refine Below.alloc ?_ ?_ _) | (with_reducible refine Below.drew ?_) | (with_reducible refine belowN ?_ _) | (with_reducible refine Below.setCell ?_ ?_ _) | (with_reducible refine belowG ?_ ?_) | (with_reducible refine le_sizeG ?_) | go_size | (simp [go_sem]; done))⟩
theorem order_s (n : Int) (s : ByteArray) (k2 n2 : Int) (s2 : ByteArray) (w : World) : Calls Tryd.prog 47 #[.agg #[.int .i64 3, .int .i64 n, .string s], .agg #[.int .i64 k2, .int .i64 n2, .string s2]] w (Ret (.int .i64 (cmpS s s2)) w) := by
  go_enter Tryd.func47, Tryd.ntmps47
  go_wp2_with ((with_reducible refine (cmpS_any _ _ _).mono ?_); rintro e w1 ⟨rfl, rfl⟩)
  go_returns
  exact ⟨rfl, by repeat' (first | (with_reducible exact Below.refl _ _) | (with_reducible assumption) | (with_reducible refine Below.alloc ?_ ?_ _) | (with_reducible refine Below.drew ?_) | (with_reducible refine belowN ?_ _) | (with_reducible refine Below.setCell ?_ ?_ _) | (with_reducible refine belowG ?_ ?_) | (with_reducible refine le_sizeG ?_) | go_size | (simp [go_sem]; done))⟩
/-- How values of such an order stand. -/
def standB (op o : Int) : Bool := if op = 8 then decide (o < 0) else if op = 9 then decide (o ≤ 0) else if op = 10 then decide (0 < o) else decide (0 ≤ o)
theorem stand_any (op o : Int) (h : op = 8 ∨ op = 9 ∨ op = 10 ∨ op = 11) (w : World) : Calls Tryd.prog 46 #[.int .i64 op, .int .i64 o] w (RetW (.bool (standB op o)) w) := by
  have hd : Hid (standB op o = if op = 8 then decide (o < 0) else if op = 9 then decide (o ≤ 0) else if op = 10 then decide (0 < o) else decide (0 ≤ o)) := rfl
  rcases h with rfl | rfl | rfl | rfl
  all_goals
    go_enter Tryd.func46, Tryd.ntmps46
    go_wp2
    go_returns
    exact ⟨ret_bl (by rw [hd.out]; rfl), rfl⟩
def emptyS : ByteArray := ⟨#[]⟩
/-- A value, or an error. -/
structure Rk where
  k : Int
  n : Int
  s : ByteArray
  e : Int
def rkV (r : Rk) : Value := .tuple #[.agg #[.int .i64 r.k, .int .i64 r.n, .string r.s], .int .i64 r.e]
theorem rkV_def (r : Rk) : rkV r = .tuple #[.agg #[.int .i64 r.k, .int .i64 r.n, .string r.s], .int .i64 r.e] := rfl
def numR (x : Int) : Rk := ⟨nK x, nN x, ⟨#[]⟩, nE x⟩
def errR (e : Int) : Rk := ⟨0, 0, ⟨#[]⟩, e⟩
def trR (b : Bool) : Rk := ⟨2, bI b, ⟨#[]⟩, 0⟩
def joinR (s t : ByteArray) : Rk := if s.size + t.size ≤ 48 then ⟨3, 0, s ++ t, 0⟩ else errR 15
theorem numV_rk (x : Int) : numV x = rkV (numR x) := rfl
theorem divV_rk : divV = rkV (errR 22) := rfl
theorem join_any (s t : ByteArray) (hs : s.size ≤ 48) (ht : t.size ≤ 48) (w : World) : Calls Tryd.prog 48 #[.string s, .string t] w (Ret (rkV (joinR s t)) w) := by
  by_cases h : s.size + t.size ≤ 48
  · have hd := Lib.hid (show joinR s t = ⟨3, 0, s ++ t, 0⟩ by simp [joinR, h])
    go_enter Tryd.func48, Tryd.ntmps48
    go_wp2_with (first | ((with_reducible refine (word_any _ _).mono ?_); intro e w1 hr; obtain ⟨rfl, p, rfl⟩ := hr.out; clear hr))
    go_returns
    exact ⟨by rw [hd.out]; rfl, by repeat' (first | (with_reducible exact Below.refl _ _) | (with_reducible assumption) | (with_reducible refine Below.alloc ?_ ?_ _) | (with_reducible refine Below.drew ?_) | (with_reducible refine belowN ?_ _) | (with_reducible refine Below.setCell ?_ ?_ _) | (with_reducible refine belowG ?_ ?_) | (with_reducible refine le_sizeG ?_) | go_size | (simp [go_sem]; done))⟩
  · have hd := Lib.hid (show joinR s t = errR 15 by simp [joinR, h])
    have h' : 48 < s.size + t.size := by omega
    go_enter Tryd.func48, Tryd.ntmps48
    go_wp2
    go_returns
    exact ⟨by rw [hd.out]; rfl, by repeat' (first | (with_reducible exact Below.refl _ _) | (with_reducible assumption) | (with_reducible refine Below.alloc ?_ ?_ _) | (with_reducible refine Below.drew ?_) | (with_reducible refine belowN ?_ _) | (with_reducible refine Below.setCell ?_ ?_ _) | (with_reducible refine belowG ?_ ?_) | (with_reducible refine le_sizeG ?_) | go_size | (simp [go_sem]; done))⟩
end Go.Proofs.YtidbmampjjgkpaaDoor
