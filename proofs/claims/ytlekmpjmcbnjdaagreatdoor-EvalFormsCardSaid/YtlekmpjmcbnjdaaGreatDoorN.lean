import Derived.Test.YtlekmpjmcbnjdaaGreatDoorC
import Derived.Test.YtlekmpjmcbnjdaaGreatDoorD2
import Derived.Test.YtlekmpjmcbnjdaaGreatDoorZ3
import Derived.WalkKit
import Derived.ProofKit
import Derived.OpenShut
import Derived.Handy
import Derived.BigQuiet
import Derived.Lib.Hide
import Derived.WalkLawsBesides
namespace Go.Proofs.YtlekmpjmcbnjdaaGreatDoor
open Go.RowKit
theorem rtruth_v (b : Bool) (w : World) : Calls Tryz.prog 39 #[.bool b] w (Ret (rkV (trR b)) w) := rtruth_any b w
set_option maxRecDepth 100000 in
set_option maxHeartbeats 2000000 in
theorem rreckon1 (k n : Int) (s : ByteArray) (k2 n2 : Int) (s2 : ByteArray) (w : World) : Calls Tryz.prog 24 #[.int .i64 1, .agg #[.int .i64 k, .int .i64 n, .string s], .agg #[.int .i64 k2, .int .i64 n2, .string s2]] w (Ret (rkV (trR (n == 0))) w) := by
  go_enter Tryz.func24, Tryz.ntmps24
  go_wp2_with (first | ((with_reducible refine (rtruth_v _ _).mono ?_); intro e w1 hr; obtain ⟨rfl, p, rfl⟩ := hr.out; clear hr; rw [rkV_def]))
  go_returns
  exact ⟨rfl, by repeat' (first | (with_reducible exact Below.refl _ _) | (with_reducible assumption) | (with_reducible refine Below.alloc ?_ ?_ _) | (with_reducible refine Below.drew ?_) | (with_reducible refine belowN ?_ _) | (with_reducible refine Below.setCell ?_ ?_ _) | (with_reducible refine belowG ?_ ?_) | (with_reducible refine le_sizeG ?_) | go_size | (simp [go_sem]; done))⟩
set_option maxRecDepth 100000 in
set_option maxHeartbeats 2000000 in
theorem rreckon2 (k n : Int) (s : ByteArray) (k2 n2 : Int) (s2 : ByteArray) (hn : I64 n) (w : World) : Calls Tryz.prog 24 #[.int .i64 2, .agg #[.int .i64 k, .int .i64 n, .string s], .agg #[.int .i64 k2, .int .i64 n2, .string s2]] w (Ret (rkV (numR (-n))) w) := by
  have H := fun wx => Lib.hid (less_any 0 n (by unfold I64; omega) hn wx)
  have H := Lib.hid H
  clear hn
  rw [show -n = 0 - n by omega]
  generalize 0 - n = x at *
  go_enter Tryz.func24, Tryz.ntmps24
  go_wp2_with (first | ((with_reducible refine ((H.out _).out).mono ?_); intro e w1 hr; obtain ⟨rfl, p, rfl⟩ := hr.out; clear hr; rw [numV_rk, rkV_def]))
  go_returns
  exact ⟨rfl, by repeat' (first | (with_reducible exact Below.refl _ _) | (with_reducible assumption) | (with_reducible refine Below.alloc ?_ ?_ _) | (with_reducible refine Below.drew ?_) | (with_reducible refine belowN ?_ _) | (with_reducible refine Below.setCell ?_ ?_ _) | (with_reducible refine belowG ?_ ?_) | (with_reducible refine le_sizeG ?_) | go_size | (simp [go_sem]; done))⟩
set_option maxRecDepth 100000 in
set_option maxHeartbeats 2000000 in
theorem rreckon3 (k n : Int) (s : ByteArray) (k2 n2 : Int) (s2 : ByteArray) (hn : I64 n) (hn2 : I64 n2) (w : World) : Calls Tryz.prog 24 #[.int .i64 3, .agg #[.int .i64 k, .int .i64 n, .string s], .agg #[.int .i64 k2, .int .i64 n2, .string s2]] w (Ret (rkV (numR (n * n2))) w) := by
  have H := fun wx => Lib.hid (rtimes_any n n2 hn hn2 wx)
  have H := Lib.hid H
  clear hn hn2
  generalize n * n2 = x at *
  go_enter Tryz.func24, Tryz.ntmps24
  go_wp2_with (first | ((with_reducible refine ((H.out _).out).mono ?_); intro e w1 hr; obtain ⟨rfl, p, rfl⟩ := hr.out; clear hr; rw [numV_rk, rkV_def]))
  go_returns
  exact ⟨rfl, by repeat' (first | (with_reducible exact Below.refl _ _) | (with_reducible assumption) | (with_reducible refine Below.alloc ?_ ?_ _) | (with_reducible refine Below.drew ?_) | (with_reducible refine belowN ?_ _) | (with_reducible refine Below.setCell ?_ ?_ _) | (with_reducible refine belowG ?_ ?_) | (with_reducible refine le_sizeG ?_) | go_size | (simp [go_sem]; done))⟩
set_option maxRecDepth 100000 in
set_option maxHeartbeats 2000000 in
theorem rreckon4 (k n : Int) (s : ByteArray) (k2 n2 : Int) (s2 : ByteArray) (hn : I64 n) (hn2 : I64 n2) (h0 : (n2 == 0) = false) (w : World) : Calls Tryz.prog 24 #[.int .i64 4, .agg #[.int .i64 k, .int .i64 n, .string s], .agg #[.int .i64 k2, .int .i64 n2, .string s2]] w (Ret (rkV (numR (n.tdiv n2))) w) := by
  have H := fun wx => Lib.hid (divide_q n n2 hn hn2 h0 wx)
  have H := Lib.hid H
  clear hn hn2
  generalize n.tdiv n2 = x at *
  go_enter Tryz.func24, Tryz.ntmps24
  go_wp2_with (first | ((with_reducible refine ((H.out _).out).mono ?_); intro e w1 hr; obtain ⟨rfl, p, rfl⟩ := hr.out; clear hr; rw [numV_rk, rkV_def]))
  go_returns
  exact ⟨rfl, by repeat' (first | (with_reducible exact Below.refl _ _) | (with_reducible assumption) | (with_reducible refine Below.alloc ?_ ?_ _) | (with_reducible refine Below.drew ?_) | (with_reducible refine belowN ?_ _) | (with_reducible refine Below.setCell ?_ ?_ _) | (with_reducible refine belowG ?_ ?_) | (with_reducible refine le_sizeG ?_) | go_size | (simp [go_sem]; done))⟩
set_option maxRecDepth 100000 in
set_option maxHeartbeats 2000000 in
theorem rreckon5 (k n : Int) (s : ByteArray) (k2 n2 : Int) (s2 : ByteArray) (hn : I64 n) (h0 : (n2 == 0) = false) (w : World) : Calls Tryz.prog 24 #[.int .i64 5, .agg #[.int .i64 k, .int .i64 n, .string s], .agg #[.int .i64 k2, .int .i64 n2, .string s2]] w (Ret (rkV ⟨1, n.tmod n2, ⟨#[]⟩, 0⟩) w) := by
  have H := fun wx => Lib.hid (divide_r n n2 hn h0 wx)
  have H := Lib.hid H
  clear hn
  generalize n.tmod n2 = x at *
  go_enter Tryz.func24, Tryz.ntmps24
  go_wp2_with (first | ((with_reducible refine ((H.out _).out).mono ?_); intro e w1 hr; obtain ⟨rfl, p, rfl⟩ := hr.out; clear hr; unfold okV))
  go_returns
  exact ⟨rfl, by repeat' (first | (with_reducible exact Below.refl _ _) | (with_reducible assumption) | (with_reducible refine Below.alloc ?_ ?_ _) | (with_reducible refine Below.drew ?_) | (with_reducible refine belowN ?_ _) | (with_reducible refine Below.setCell ?_ ?_ _) | (with_reducible refine belowG ?_ ?_) | (with_reducible refine le_sizeG ?_) | go_size | (simp [go_sem]; done))⟩
set_option maxRecDepth 100000 in
set_option maxHeartbeats 2000000 in
theorem rreckon45 (k n : Int) (s : ByteArray) (k2 n2 : Int) (s2 : ByteArray) (op : Int) (ho : op = 4 ∨ op = 5) (h0 : n2 = 0) (w : World) : Calls Tryz.prog 24 #[.int .i64 op, .agg #[.int .i64 k, .int .i64 n, .string s], .agg #[.int .i64 k2, .int .i64 n2, .string s2]] w (Ret (rkV (errR 22)) w) := by
  subst h0
  rcases ho with rfl | rfl
  all_goals
    go_enter Tryz.func24, Tryz.ntmps24
    go_wp2_with (first | ((with_reducible refine (divide_z _ _ _).mono ?_); intro e w1 hr; obtain ⟨rfl, p, rfl⟩ := hr.out; clear hr; unfold divV))
    go_returns
    exact ⟨rfl, by repeat' (first | (with_reducible exact Below.refl _ _) | (with_reducible assumption) | (with_reducible refine Below.alloc ?_ ?_ _) | (with_reducible refine Below.drew ?_) | (with_reducible refine belowN ?_ _) | (with_reducible refine Below.setCell ?_ ?_ _) | (with_reducible refine belowG ?_ ?_) | (with_reducible refine le_sizeG ?_) | go_size | (simp [go_sem]; done))⟩
set_option maxRecDepth 100000 in
set_option maxHeartbeats 2000000 in
theorem rreckon6 (n : Int) (s : ByteArray) (k2 n2 : Int) (s2 : ByteArray) (hn : I64 n) (hn2 : I64 n2) (w : World) : Calls Tryz.prog 24 #[.int .i64 6, .agg #[.int .i64 1, .int .i64 n, .string s], .agg #[.int .i64 k2, .int .i64 n2, .string s2]] w (Ret (rkV (numR (n + n2))) w) := by
  have H := fun wx => Lib.hid (sum_any n n2 hn hn2 wx)
  have H := Lib.hid H
  clear hn hn2
  generalize n + n2 = x at *
  go_enter Tryz.func24, Tryz.ntmps24
  go_wp2_with (first | ((with_reducible refine ((H.out _).out).mono ?_); intro e w1 hr; obtain ⟨rfl, p, rfl⟩ := hr.out; clear hr; rw [numV_rk, rkV_def]))
  go_returns
  exact ⟨rfl, by repeat' (first | (with_reducible exact Below.refl _ _) | (with_reducible assumption) | (with_reducible refine Below.alloc ?_ ?_ _) | (with_reducible refine Below.drew ?_) | (with_reducible refine belowN ?_ _) | (with_reducible refine Below.setCell ?_ ?_ _) | (with_reducible refine belowG ?_ ?_) | (with_reducible refine le_sizeG ?_) | go_size | (simp [go_sem]; done))⟩
set_option maxRecDepth 100000 in
set_option maxHeartbeats 2000000 in
theorem rreckon6s (k n : Int) (hk : (k == 1) = false) (s : ByteArray) (k2 n2 : Int) (s2 : ByteArray) (hs : s.size ≤ 48) (ht : s2.size ≤ 48) (w : World) : Calls Tryz.prog 24 #[.int .i64 6, .agg #[.int .i64 k, .int .i64 n, .string s], .agg #[.int .i64 k2, .int .i64 n2, .string s2]] w (Ret (rkV (joinR s s2)) w) := by
  by_cases h : s.size + s2.size ≤ 48
  · have hd := Lib.hid (show joinR s s2 = ⟨3, 0, s ++ s2, 0⟩ by simp [joinR, h])
    go_enter Tryz.func24, Tryz.ntmps24
    go_wp2
    go_returns
    exact ⟨by rw [hd.out]; rfl, by repeat' (first | (with_reducible exact Below.refl _ _) | (with_reducible assumption) | (with_reducible refine Below.alloc ?_ ?_ _) | (with_reducible refine Below.drew ?_) | (with_reducible refine belowN ?_ _) | (with_reducible refine Below.setCell ?_ ?_ _) | (with_reducible refine belowG ?_ ?_) | (with_reducible refine le_sizeG ?_) | go_size | (simp [go_sem]; done))⟩
  · have hd := Lib.hid (show joinR s s2 = errR 15 by simp [joinR, h])
    have h' : 48 < s.size + s2.size := by omega
    go_enter Tryz.func24, Tryz.ntmps24
    go_wp2
    go_returns
    exact ⟨by rw [hd.out]; rfl, by repeat' (first | (with_reducible exact Below.refl _ _) | (with_reducible assumption) | (with_reducible refine Below.alloc ?_ ?_ _) | (with_reducible refine Below.drew ?_) | (with_reducible refine belowN ?_ _) | (with_reducible refine Below.setCell ?_ ?_ _) | (with_reducible refine belowG ?_ ?_) | (with_reducible refine le_sizeG ?_) | go_size | (simp [go_sem]; done))⟩
set_option maxRecDepth 100000 in
set_option maxHeartbeats 2000000 in
theorem rreckon7 (k n : Int) (s : ByteArray) (k2 n2 : Int) (s2 : ByteArray) (hn : I64 n) (hn2 : I64 n2) (w : World) : Calls Tryz.prog 24 #[.int .i64 7, .agg #[.int .i64 k, .int .i64 n, .string s], .agg #[.int .i64 k2, .int .i64 n2, .string s2]] w (Ret (rkV (numR (n - n2))) w) := by
  have H := fun wx => Lib.hid (less_any n n2 hn hn2 wx)
  have H := Lib.hid H
  clear hn hn2
  generalize n - n2 = x at *
  go_enter Tryz.func24, Tryz.ntmps24
  go_wp2_with (first | ((with_reducible refine ((H.out _).out).mono ?_); intro e w1 hr; obtain ⟨rfl, p, rfl⟩ := hr.out; clear hr; rw [numV_rk, rkV_def]))
  go_returns
  exact ⟨rfl, by repeat' (first | (with_reducible exact Below.refl _ _) | (with_reducible assumption) | (with_reducible refine Below.alloc ?_ ?_ _) | (with_reducible refine Below.drew ?_) | (with_reducible refine belowN ?_ _) | (with_reducible refine Below.setCell ?_ ?_ _) | (with_reducible refine belowG ?_ ?_) | (with_reducible refine le_sizeG ?_) | go_size | (simp [go_sem]; done))⟩
def lessR (op : Int) (a b : Bool) : Bool := if op = 8 then a else if op = 9 then !b else if op = 10 then b else !a
set_option maxRecDepth 100000 in
set_option maxHeartbeats 2000000 in
theorem rreckonCn (op : Int) (ho : op = 8 ∨ op = 9 ∨ op = 10 ∨ op = 11) (k n : Int) (s : ByteArray) (k2 n2 : Int) (s2 : ByteArray) (hk : (k == 3) = false) (hk2 : (k2 == 3) = false) (w : World) : Calls Tryz.prog 24 #[.int .i64 op, .agg #[.int .i64 k, .int .i64 n, .string s], .agg #[.int .i64 k2, .int .i64 n2, .string s2]] w (Ret (rkV (trR (lessR op (decide (n < n2)) (decide (n2 < n))))) w) := by
  rcases ho with rfl | rfl | rfl | rfl
  all_goals
    go_enter Tryz.func24, Tryz.ntmps24
    go_wp2_with (first | ((with_reducible refine (before_n _ hk _ _ _ _ _ _).mono ?_); intro e w1 hr; obtain ⟨rfl, p, rfl⟩ := hr.out; clear hr) | ((with_reducible refine (before_n _ hk2 _ _ _ _ _ _).mono ?_); intro e w1 hr; obtain ⟨rfl, p, rfl⟩ := hr.out; clear hr) | ((with_reducible refine (rtruth_v _ _).mono ?_); intro e w1 hr; obtain ⟨rfl, p, rfl⟩ := hr.out; clear hr; rw [rkV_def]))
    go_returns
    exact ⟨rfl, by repeat' (first | (with_reducible exact Below.refl _ _) | (with_reducible assumption) | (with_reducible refine Below.alloc ?_ ?_ _) | (with_reducible refine Below.drew ?_) | (with_reducible refine belowN ?_ _) | (with_reducible refine Below.setCell ?_ ?_ _) | (with_reducible refine belowG ?_ ?_) | (with_reducible refine le_sizeG ?_) | go_size | (simp [go_sem]; done))⟩
set_option maxRecDepth 100000 in
set_option maxHeartbeats 2000000 in
theorem rreckonCs (op : Int) (ho : op = 8 ∨ op = 9 ∨ op = 10 ∨ op = 11) (n : Int) (s : ByteArray) (n2 : Int) (s2 : ByteArray) (hs : s.size ≤ maxLen) (hs2 : s2.size ≤ maxLen) (w : World) : Calls Tryz.prog 24 #[.int .i64 op, .agg #[.int .i64 3, .int .i64 n, .string s], .agg #[.int .i64 3, .int .i64 n2, .string s2]] w (Ret (rkV (trR (lessR op (Op.bytesLess s.data.toList s2.data.toList) (Op.bytesLess s2.data.toList s.data.toList)))) w) := by
  have H1 := fun wx => Lib.hid (before_s n s 3 n2 s2 wx hs hs2)
  have H1 := Lib.hid H1
  have H2 := fun wx => Lib.hid (before_s n2 s2 3 n s wx hs2 hs)
  have H2 := Lib.hid H2
  clear hs hs2
  generalize Op.bytesLess s.data.toList s2.data.toList = b1 at *
  generalize Op.bytesLess s2.data.toList s.data.toList = b2 at *
  rcases ho with rfl | rfl | rfl | rfl
  all_goals
    go_enter Tryz.func24, Tryz.ntmps24
    go_wp2_with (first | ((with_reducible refine ((H1.out _).out).mono ?_); intro e w1 hr; obtain ⟨rfl, p, rfl⟩ := hr.out; clear hr) | ((with_reducible refine ((H2.out _).out).mono ?_); intro e w1 hr; obtain ⟨rfl, p, rfl⟩ := hr.out; clear hr) | ((with_reducible refine (rtruth_v _ _).mono ?_); intro e w1 hr; obtain ⟨rfl, p, rfl⟩ := hr.out; clear hr; rw [rkV_def]))
    go_returns
    exact ⟨rfl, by repeat' (first | (with_reducible exact Below.refl _ _) | (with_reducible assumption) | (with_reducible refine Below.alloc ?_ ?_ _) | (with_reducible refine Below.drew ?_) | (with_reducible refine belowN ?_ _) | (with_reducible refine Below.setCell ?_ ?_ _) | (with_reducible refine belowG ?_ ?_) | (with_reducible refine le_sizeG ?_) | go_size | (simp [go_sem]; done))⟩
set_option maxRecDepth 100000 in
set_option maxHeartbeats 2000000 in
theorem rreckonE (op : Int) (ho : op = 12 ∨ op = 13) (k n n2 : Int) (s s2 : ByteArray) (w : World) :
    Calls Tryz.prog 24 #[.int .i64 op, .agg #[.int .i64 k, .int .i64 n, .string s], .agg #[.int .i64 k, .int .i64 n2, .string s2]] w (Ret (rkV (trR (if op = 12 then eqB n s n2 s2 else !eqB n s n2 s2))) w) := by
  have hd : Hid (eqB n s n2 s2 = (n == n2 && s.toList == s2.toList)) := rfl
  rcases h1 : (n == n2)
  · have hv := Lib.hid (show eqB n s n2 s2 = false by rw [hd.out, h1]; rfl)
    clear hd
    rcases ho with rfl | rfl
    all_goals
      go_enter Tryz.func24, Tryz.ntmps24
      go_wp2_with (first | ((with_reducible refine (rtruth_v _ _).mono ?_); intro e w1 hr; obtain ⟨rfl, p, rfl⟩ := hr.out; clear hr; rw [rkV_def]))
      go_returns
      exact ⟨by rw [hv.out]; rfl, by repeat' (first | (with_reducible exact Below.refl _ _) | (with_reducible assumption) | (with_reducible refine Below.alloc ?_ ?_ _) | (with_reducible refine Below.drew ?_) | (with_reducible refine belowN ?_ _) | (with_reducible refine Below.setCell ?_ ?_ _) | (with_reducible refine belowG ?_ ?_) | (with_reducible refine le_sizeG ?_) | go_size | (simp [go_sem]; done))⟩
  · obtain rfl : n = n2 := by simpa using h1
    clear h1
    rcases h2 : (s.toList == s2.toList)
    · have hv := Lib.hid (show eqB n s n s2 = false by rw [hd.out, h2]; simp)
      clear hd
      rcases ho with rfl | rfl
      all_goals
        go_enter Tryz.func24, Tryz.ntmps24
        go_wp2_with (first | ((with_reducible refine (rtruth_v _ _).mono ?_); intro e w1 hr; obtain ⟨rfl, p, rfl⟩ := hr.out; clear hr; rw [rkV_def]))
        go_returns
        exact ⟨by rw [hv.out]; rfl, by repeat' (first | (with_reducible exact Below.refl _ _) | (with_reducible assumption) | (with_reducible refine Below.alloc ?_ ?_ _) | (with_reducible refine Below.drew ?_) | (with_reducible refine belowN ?_ _) | (with_reducible refine Below.setCell ?_ ?_ _) | (with_reducible refine belowG ?_ ?_) | (with_reducible refine le_sizeG ?_) | go_size | (simp [go_sem]; done))⟩
    · have hv := Lib.hid (show eqB n s n s2 = true by rw [hd.out, h2]; simp)
      clear hd
      rcases ho with rfl | rfl
      all_goals
        go_enter Tryz.func24, Tryz.ntmps24
        go_wp2_with (first | ((with_reducible refine (rtruth_v _ _).mono ?_); intro e w1 hr; obtain ⟨rfl, p, rfl⟩ := hr.out; clear hr; rw [rkV_def]))
        go_returns
        exact ⟨by rw [hv.out]; rfl, by repeat' (first | (with_reducible exact Below.refl _ _) | (with_reducible assumption) | (with_reducible refine Below.alloc ?_ ?_ _) | (with_reducible refine Below.drew ?_) | (with_reducible refine belowN ?_ _) | (with_reducible refine Below.setCell ?_ ?_ _) | (with_reducible refine belowG ?_ ?_) | (with_reducible refine le_sizeG ?_) | go_size | (simp [go_sem]; done))⟩
set_option maxRecDepth 100000 in
set_option maxHeartbeats 2000000 in
theorem rreckonL (op : Int) (ho : op = 14 ∨ op = 15) (n n2 : Int) (hn : n = 0 ∨ n = 1) (hn2 : n2 = 0 ∨ n2 = 1) (k : Int) (s : ByteArray) (k2 : Int) (s2 : ByteArray) (w : World) :
    Calls Tryz.prog 24 #[.int .i64 op, .agg #[.int .i64 k, .int .i64 n, .string s], .agg #[.int .i64 k2, .int .i64 n2, .string s2]] w (Ret (rkV (trR (if op = 14 then (n == 1 && n2 == 1) else (n == 1 || n2 == 1)))) w) := by
  rcases ho with rfl | rfl <;> rcases hn with rfl | rfl <;> rcases hn2 with rfl | rfl
  all_goals
    go_enter Tryz.func24, Tryz.ntmps24
    go_wp2_with (first | ((with_reducible refine (rtruth_v _ _).mono ?_); intro e w1 hr; obtain ⟨rfl, p, rfl⟩ := hr.out; clear hr; rw [rkV_def]))
    go_returns
    exact ⟨rfl, by repeat' (first | (with_reducible exact Below.refl _ _) | (with_reducible assumption) | (with_reducible refine Below.alloc ?_ ?_ _) | (with_reducible refine Below.drew ?_) | (with_reducible refine belowN ?_ _) | (with_reducible refine Below.setCell ?_ ?_ _) | (with_reducible refine belowG ?_ ?_) | (with_reducible refine le_sizeG ?_) | go_size | (simp [go_sem]; done))⟩
end Go.Proofs.YtlekmpjmcbnjdaaGreatDoor

