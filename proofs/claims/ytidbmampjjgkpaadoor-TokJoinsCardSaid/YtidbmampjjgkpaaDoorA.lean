import Derived.Test.YtidbmampjjgkpaaDoorChecked
import Derived.Test.YtidbmampjjgkpaaDoorG0
import Derived.Test.YtidbmampjjgkpaaDoorNum
import Derived.WalkKit
import Derived.ProofKit
import Derived.OpenShut
import Derived.Handy
import Derived.BigQuiet
import Derived.Lib.Hide
import Derived.WalkLawsBesides
namespace Go.Proofs.YtidbmampjjgkpaaDoor
open Go.RowKit
theorem of_any (n : Int) (w : World) : Calls Tryd.prog 30 #[.int .i64 n] w (Ret (.agg #[.int .i64 1, .int .i64 n, .string ⟨#[]⟩]) w) := by
  go_enter Tryd.func30, Tryd.ntmps30
  go_wp2
  go_returns
  exact ⟨rfl, by repeat' (first | (with_reducible exact Below.refl _ _) | (with_reducible assumption) | (with_reducible refine Below.alloc ?_ ?_ _) | (with_reducible refine Below.drew ?_) | (with_reducible refine belowN ?_ _) | (with_reducible refine Below.setCell ?_ ?_ _) | (with_reducible refine belowG ?_ ?_) | (with_reducible refine le_sizeG ?_) | go_size | (simp [go_sem]; done))⟩
theorem word_any (s : ByteArray) (w : World) : Calls Tryd.prog 31 #[.string s] w (Ret (.agg #[.int .i64 3, .int .i64 0, .string s]) w) := by
  go_enter Tryd.func31, Tryd.ntmps31
  go_wp2
  go_returns
  exact ⟨rfl, by repeat' (first | (with_reducible exact Below.refl _ _) | (with_reducible assumption) | (with_reducible refine Below.alloc ?_ ?_ _) | (with_reducible refine Below.drew ?_) | (with_reducible refine belowN ?_ _) | (with_reducible refine Below.setCell ?_ ?_ _) | (with_reducible refine belowG ?_ ?_) | (with_reducible refine le_sizeG ?_) | go_size | (simp [go_sem]; done))⟩
def bI (b : Bool) : Int := if b then 1 else 0
theorem truth_any (b : Bool) (w : World) : Calls Tryd.prog 29 #[.bool b] w (Ret (.agg #[.int .i64 2, .int .i64 (bI b), .string ⟨#[]⟩]) w) := by
  cases b
  all_goals
    go_enter Tryd.func29, Tryd.ntmps29
    go_wp2
    go_returns
    exact ⟨rfl, by repeat' (first | (with_reducible exact Below.refl _ _) | (with_reducible assumption) | (with_reducible refine Below.alloc ?_ ?_ _) | (with_reducible refine Below.drew ?_) | (with_reducible refine belowN ?_ _) | (with_reducible refine Below.setCell ?_ ?_ _) | (with_reducible refine belowG ?_ ?_) | (with_reducible refine le_sizeG ?_) | go_size | (simp [go_sem]; done))⟩
theorem rtruth_any (b : Bool) (w : World) : Calls Tryd.prog 51 #[.bool b] w (Ret (.tuple #[.agg #[.int .i64 2, .int .i64 (bI b), .string ⟨#[]⟩], .int .i64 0]) w) := by
  cases b
  all_goals
    go_enter Tryd.func51, Tryd.ntmps51
    go_wp2
    go_returns
    exact ⟨rfl, by repeat' (first | (with_reducible exact Below.refl _ _) | (with_reducible assumption) | (with_reducible refine Below.alloc ?_ ?_ _) | (with_reducible refine Below.drew ?_) | (with_reducible refine belowN ?_ _) | (with_reducible refine Below.setCell ?_ ?_ _) | (with_reducible refine belowG ?_ ?_) | (with_reducible refine le_sizeG ?_) | go_size | (simp [go_sem]; done))⟩
theorem ref_any (k n : Int) (s : ByteArray) (w : World) : Calls Tryd.prog 16 #[.agg #[.int .i64 k, .int .i64 n, .string s]] w (Ret (.agg #[.int .i64 k, .int .i64 n, .string s]) w) := by
  go_enter Tryd.func16, Tryd.ntmps16
  go_wp2
  go_returns
  exact ⟨rfl, by repeat' (first | (with_reducible exact Below.refl _ _) | (with_reducible assumption) | (with_reducible refine Below.alloc ?_ ?_ _) | (with_reducible refine Below.drew ?_) | (with_reducible refine belowN ?_ _) | (with_reducible refine Below.setCell ?_ ?_ _) | (with_reducible refine belowG ?_ ?_) | (with_reducible refine le_sizeG ?_) | go_size | (simp [go_sem]; done))⟩
def yesB (k n : Int) : Bool := k == 2 && n != 0
theorem yes_any (k n : Int) (s : ByteArray) (w : World) : Calls Tryd.prog 25 #[.agg #[.int .i64 k, .int .i64 n, .string s]] w (Ret (.bool (yesB k n)) w) := by
  go_enter Tryd.func25, Tryd.ntmps25
  go_wp2
  all_goals go_returns
  all_goals exact ⟨by simp [*, yesB], by repeat' (first | (with_reducible exact Below.refl _ _) | (with_reducible assumption) | (with_reducible refine Below.alloc ?_ ?_ _) | (with_reducible refine Below.drew ?_) | (with_reducible refine belowN ?_ _) | (with_reducible refine Below.setCell ?_ ?_ _) | (with_reducible refine belowG ?_ ?_) | (with_reducible refine le_sizeG ?_) | go_size | (simp [go_sem]; done))⟩
theorem plus_any (a b : Int) (ha : I64 a) (hb : I64 b) (w : World) : Calls Tryd.prog 77 #[.int .i64 a, .int .i64 b] w (RetW (.tuple #[.int .i64 (wrap64 (a+b)), .bool (inR (a + b))]) w) := by
  have h := Lib.hid (plusB a b ha hb)
  clear ha hb
  go_enter Tryd.func77, Tryd.ntmps77
  go_wp2
  go_returns
  exact ⟨ret_tup2 rfl (ret_bool h.out), rfl⟩
theorem minus_any (a b : Int) (ha : I64 a) (hb : I64 b) (w : World) : Calls Tryd.prog 74 #[.int .i64 a, .int .i64 b] w (RetW (.tuple #[.int .i64 (wrap64 (a-b)), .bool (inR (a - b))]) w) := by
  have h := Lib.hid (minusB a b ha hb)
  clear ha hb
  go_enter Tryd.func74, Tryd.ntmps74
  go_wp2
  go_returns
  exact ⟨ret_tup2 rfl (ret_bool h.out), rfl⟩
theorem quo_any (a b : Int) (ha : I64 a) (hb : I64 b) (h0 : (b == 0) = false) (w : World) : Calls Tryd.prog 76 #[.int .i64 a, .int .i64 b] w (RetW (.tuple #[.int .i64 (wrap64 (a.tdiv b)), .bool (inR (a.tdiv b))]) w) := by
  have h := Lib.hid (quoB a b ha hb (by simpa using h0))
  have h0' : ¬ b = 0 := by simpa using h0
  clear ha hb
  by_cases h1 : a < 0 <;> by_cases h2 : b < 0
  all_goals
    go_enter Tryd.func76, Tryd.ntmps76
    go_wp2
    go_returns
    exact ⟨by rw [← h.out]; simp [h1, h2], rfl⟩
theorem times_0 (a b : Int) (h : a = 0 ∨ b = 0) (w : World) : Calls Tryd.prog 75 #[.int .i64 a, .int .i64 b] w (RetW (.tuple #[.int .i64 0, .bool true]) w) := by
  by_cases h1 : (a == 0) = true
  · go_enter Tryd.func75, Tryd.ntmps75
    go_wp2
    go_returns
    exact ⟨rfl, rfl⟩
  · have h2 : (b == 0) = true := by simp at h1; rcases h with h | h <;> simp_all
    have h1' : (a == 0) = false := by simpa using h1
    clear h h1
    go_enter Tryd.func75, Tryd.ntmps75
    go_wp2
    go_returns
    exact ⟨rfl, rfl⟩
theorem times_n (a b : Int) (ha : I64 a) (hb : I64 b) (ha0 : (a == 0) = false) (hb0 : (b == 0) = false) (w : World) : Calls Tryd.prog 75 #[.int .i64 a, .int .i64 b] w (RetW (.tuple #[.int .i64 (wrap64 (a * b)), .bool (inR (a * b))]) w) := by
  have h := Lib.hid (timesB a b ha hb (by simpa using ha0) (by simpa using hb0))
  have h0' : ¬ b = 0 := by simpa using hb0
  clear ha hb
  go_enter Tryd.func75, Tryd.ntmps75
  go_wp2
  all_goals go_returns
  all_goals refine ⟨?_, rfl⟩
  all_goals refine ret_tup2 rfl (ret_bool ?_)
  all_goals rw [← h.out]; simp [*, bne]
def cmpI (a b : Int) : Int := if a < b then -1 else if b < a then 1 else 0
theorem cmpI_any (a b : Int) (w : World) : Calls Tryd.prog 73 #[.int .i64 a, .int .i64 b] w (RetW (.int .i64 (cmpI a b)) w) := by
  go_enter Tryd.func73, Tryd.ntmps73
  go_wp2
  all_goals go_returns
  all_goals exact ⟨ret_int (by unfold cmpI; repeat (first | rw [if_pos (by omega)] | rw [if_neg (by omega)])), rfl⟩
def cmpS (a b : ByteArray) : Int := if Op.bytesLess a.toList b.toList then -1 else if !(Op.bytesLess a.toList b.toList) && !(a.toList == b.toList) then 1 else 0
theorem cmpS_any (a b : ByteArray) (w : World) : Calls Tryd.prog 72 #[.string a, .string b] w (RetW (.int .i64 (cmpS a b)) w) := by
  rcases h1 : Op.bytesLess a.toList b.toList <;> rcases h2 : (a.toList == b.toList)
  all_goals
    have H : Hid (cmpS a b = if Op.bytesLess a.toList b.toList then -1 else if !(Op.bytesLess a.toList b.toList) && !(a.toList == b.toList) then 1 else 0) := rfl
    go_enter Tryd.func72, Tryd.ntmps72
    go_wp2
    all_goals go_returns
    all_goals exact ⟨ret_int (by rw [H.out, h1]; try rw [h2]
                                 simp), rfl⟩
end Go.Proofs.YtidbmampjjgkpaaDoor
