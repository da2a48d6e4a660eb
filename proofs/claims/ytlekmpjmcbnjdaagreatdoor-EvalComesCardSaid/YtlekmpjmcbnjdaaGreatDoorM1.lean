import Derived.Test.YtlekmpjmcbnjdaaGreatDoorZ3
import Derived.WalkKit
import Derived.ProofKit
import Derived.OpenShut
import Derived.Handy
import Derived.BigQuiet
import Derived.Lib.Hide
import Derived.WalkLawsBesides
namespace Go.Proofs.YtlekmpjmcbnjdaaGreatDoor
open Go.RowKit
set_option maxHeartbeats 1000000 in
theorem reckon3 (n n2 : Int) (hn : I64 n) (hn2 : I64 n2) (g : Nat) (w : World) (hg : g < w.heap.size) (c0 : w.cell? ⟨g, 0, none⟩ = some (.int .i64 1)) (c1 : w.cell? ⟨g, 1, none⟩ = some (.int .i64 n2)) (c2 : w.cell? ⟨g, 2, none⟩ = some (.string ⟨#[]⟩)) :
    Calls Tryz.prog 66 #[.int .i64 3, .agg #[.int .i64 1, .int .i64 n, .string ⟨#[]⟩], .slice (some ⟨g, 0, none⟩) 1 1] w (Ret (rkV (numR (n * n2))) w) := by
  have H := fun wx => Lib.hid (number3 n n2 hn hn2 wx)
  have H := Lib.hid H
  clear hn hn2
  generalize n * n2 = x at *
  go_enter Tryz.func66, Tryz.ntmps66
  go_wp2_with (first | ((with_reducible refine (alone_f (by decide) _).mono ?_); rintro e w1 ⟨rfl, rfl⟩) | ((with_reducible refine (result_t (by decide) _).mono ?_); rintro e w1 ⟨rfl, rfl⟩) | ((with_reducible refine ((H.out _).out).mono ?_); intro e w1 hr; obtain ⟨rfl, p, rfl⟩ := hr.out; clear hr; rw [numV_rk, rkV_def]))
  go_returns
  exact ⟨rfl, by repeat' (first | (with_reducible exact Below.refl _ _) | (with_reducible assumption) | (with_reducible refine Below.alloc ?_ ?_ _) | (with_reducible refine Below.drew ?_) | (with_reducible refine belowN ?_ _) | (with_reducible refine Below.setCell ?_ ?_ _) | (with_reducible refine belowG ?_ ?_) | (with_reducible refine le_sizeG ?_) | go_size | (simp [go_sem]; done))⟩
set_option maxHeartbeats 1000000 in
theorem reckon4 (n n2 : Int) (hn : I64 n) (hn2 : I64 n2) (h0 : (n2 == 0) = false) (g : Nat) (w : World) (hg : g < w.heap.size) (c0 : w.cell? ⟨g, 0, none⟩ = some (.int .i64 1)) (c1 : w.cell? ⟨g, 1, none⟩ = some (.int .i64 n2)) (c2 : w.cell? ⟨g, 2, none⟩ = some (.string ⟨#[]⟩)) :
    Calls Tryz.prog 66 #[.int .i64 4, .agg #[.int .i64 1, .int .i64 n, .string ⟨#[]⟩], .slice (some ⟨g, 0, none⟩) 1 1] w (Ret (rkV (numR (n.tdiv n2))) w) := by
  have H := fun wx => Lib.hid (number4n n n2 hn hn2 h0 wx)
  have H := Lib.hid H
  clear hn hn2
  generalize n.tdiv n2 = x at *
  go_enter Tryz.func66, Tryz.ntmps66
  go_wp2_with (first | ((with_reducible refine (alone_f (by decide) _).mono ?_); rintro e w1 ⟨rfl, rfl⟩) | ((with_reducible refine (result_t (by decide) _).mono ?_); rintro e w1 ⟨rfl, rfl⟩) | ((with_reducible refine ((H.out _).out).mono ?_); intro e w1 hr; obtain ⟨rfl, p, rfl⟩ := hr.out; clear hr; rw [numV_rk, rkV_def]))
  go_returns
  exact ⟨rfl, by repeat' (first | (with_reducible exact Below.refl _ _) | (with_reducible assumption) | (with_reducible refine Below.alloc ?_ ?_ _) | (with_reducible refine Below.drew ?_) | (with_reducible refine belowN ?_ _) | (with_reducible refine Below.setCell ?_ ?_ _) | (with_reducible refine belowG ?_ ?_) | (with_reducible refine le_sizeG ?_) | go_size | (simp [go_sem]; done))⟩
set_option maxHeartbeats 1000000 in
theorem reckon5 (n n2 : Int) (h0 : (n2 == 0) = false) (g : Nat) (w : World) (hg : g < w.heap.size) (c0 : w.cell? ⟨g, 0, none⟩ = some (.int .i64 1)) (c1 : w.cell? ⟨g, 1, none⟩ = some (.int .i64 n2)) (c2 : w.cell? ⟨g, 2, none⟩ = some (.string ⟨#[]⟩)) :
    Calls Tryz.prog 66 #[.int .i64 5, .agg #[.int .i64 1, .int .i64 n, .string ⟨#[]⟩], .slice (some ⟨g, 0, none⟩) 1 1] w (Ret (rkV (⟨1, n.tmod n2, ⟨#[]⟩, 0⟩)) w) := by
  have H := fun wx => Lib.hid (number5 n n2 h0 wx)
  have H := Lib.hid H

  generalize n.tmod n2 = x at *
  go_enter Tryz.func66, Tryz.ntmps66
  go_wp2_with (first | ((with_reducible refine (alone_f (by decide) _).mono ?_); rintro e w1 ⟨rfl, rfl⟩) | ((with_reducible refine (result_t (by decide) _).mono ?_); rintro e w1 ⟨rfl, rfl⟩) | ((with_reducible refine ((H.out _).out).mono ?_); intro e w1 hr; obtain ⟨rfl, p, rfl⟩ := hr.out; clear hr; unfold okV))
  go_returns
  exact ⟨rfl, by repeat' (first | (with_reducible exact Below.refl _ _) | (with_reducible assumption) | (with_reducible refine Below.alloc ?_ ?_ _) | (with_reducible refine Below.drew ?_) | (with_reducible refine belowN ?_ _) | (with_reducible refine Below.setCell ?_ ?_ _) | (with_reducible refine belowG ?_ ?_) | (with_reducible refine le_sizeG ?_) | go_size | (simp [go_sem]; done))⟩
set_option maxHeartbeats 1000000 in
theorem reckon6 (n n2 : Int) (hn : I64 n) (hn2 : I64 n2) (g : Nat) (w : World) (hg : g < w.heap.size) (c0 : w.cell? ⟨g, 0, none⟩ = some (.int .i64 1)) (c1 : w.cell? ⟨g, 1, none⟩ = some (.int .i64 n2)) (c2 : w.cell? ⟨g, 2, none⟩ = some (.string ⟨#[]⟩)) :
    Calls Tryz.prog 66 #[.int .i64 6, .agg #[.int .i64 1, .int .i64 n, .string ⟨#[]⟩], .slice (some ⟨g, 0, none⟩) 1 1] w (Ret (rkV (numR (n + n2))) w) := by
  have H := fun wx => Lib.hid (number6 n n2 hn hn2 wx)
  have H := Lib.hid H
  clear hn hn2
  generalize n + n2 = x at *
  go_enter Tryz.func66, Tryz.ntmps66
  go_wp2_with (first | ((with_reducible refine (alone_f (by decide) _).mono ?_); rintro e w1 ⟨rfl, rfl⟩) | ((with_reducible refine (result_t (by decide) _).mono ?_); rintro e w1 ⟨rfl, rfl⟩) | ((with_reducible refine ((H.out _).out).mono ?_); intro e w1 hr; obtain ⟨rfl, p, rfl⟩ := hr.out; clear hr; rw [numV_rk, rkV_def]))
  go_returns
  exact ⟨rfl, by repeat' (first | (with_reducible exact Below.refl _ _) | (with_reducible assumption) | (with_reducible refine Below.alloc ?_ ?_ _) | (with_reducible refine Below.drew ?_) | (with_reducible refine belowN ?_ _) | (with_reducible refine Below.setCell ?_ ?_ _) | (with_reducible refine belowG ?_ ?_) | (with_reducible refine le_sizeG ?_) | go_size | (simp [go_sem]; done))⟩
set_option maxHeartbeats 1000000 in
theorem reckon7 (n n2 : Int) (hn : I64 n) (hn2 : I64 n2) (g : Nat) (w : World) (hg : g < w.heap.size) (c0 : w.cell? ⟨g, 0, none⟩ = some (.int .i64 1)) (c1 : w.cell? ⟨g, 1, none⟩ = some (.int .i64 n2)) (c2 : w.cell? ⟨g, 2, none⟩ = some (.string ⟨#[]⟩)) :
    Calls Tryz.prog 66 #[.int .i64 7, .agg #[.int .i64 1, .int .i64 n, .string ⟨#[]⟩], .slice (some ⟨g, 0, none⟩) 1 1] w (Ret (rkV (numR (n - n2))) w) := by
  have H := fun wx => Lib.hid (number7 n n2 hn hn2 wx)
  have H := Lib.hid H
  clear hn hn2
  generalize n - n2 = x at *
  go_enter Tryz.func66, Tryz.ntmps66
  go_wp2_with (first | ((with_reducible refine (alone_f (by decide) _).mono ?_); rintro e w1 ⟨rfl, rfl⟩) | ((with_reducible refine (result_t (by decide) _).mono ?_); rintro e w1 ⟨rfl, rfl⟩) | ((with_reducible refine ((H.out _).out).mono ?_); intro e w1 hr; obtain ⟨rfl, p, rfl⟩ := hr.out; clear hr; rw [numV_rk, rkV_def]))
  go_returns
  exact ⟨rfl, by repeat' (first | (with_reducible exact Below.refl _ _) | (with_reducible assumption) | (with_reducible refine Below.alloc ?_ ?_ _) | (with_reducible refine Below.drew ?_) | (with_reducible refine belowN ?_ _) | (with_reducible refine Below.setCell ?_ ?_ _) | (with_reducible refine belowG ?_ ?_) | (with_reducible refine le_sizeG ?_) | go_size | (simp [go_sem]; done))⟩
set_option maxHeartbeats 1000000 in
theorem reckon45 (op n n2 : Int) (ho : op = 4 ∨ op = 5) (h0 : n2 = 0) (g : Nat) (w : World) (hg : g < w.heap.size) (c0 : w.cell? ⟨g, 0, none⟩ = some (.int .i64 1)) (c1 : w.cell? ⟨g, 1, none⟩ = some (.int .i64 n2)) (c2 : w.cell? ⟨g, 2, none⟩ = some (.string ⟨#[]⟩)) :
    Calls Tryz.prog 66 #[.int .i64 op, .agg #[.int .i64 1, .int .i64 n, .string ⟨#[]⟩], .slice (some ⟨g, 0, none⟩) 1 1] w (Ret (rkV (errR 22)) w) := by
  subst h0
  rcases ho with rfl | rfl
  all_goals
    go_enter Tryz.func66, Tryz.ntmps66
    go_wp2_with (first | ((with_reducible refine (alone_f (by decide) _).mono ?_); rintro e w1 ⟨rfl, rfl⟩) | ((with_reducible refine (result_t (by decide) _).mono ?_); rintro e w1 ⟨rfl, rfl⟩) | ((with_reducible refine (number45z _ _ (by decide) _).mono ?_); intro e w1 hr; obtain ⟨rfl, p, rfl⟩ := hr.out; clear hr; unfold divV))
    go_returns
    exact ⟨rfl, by repeat' (first | (with_reducible exact Below.refl _ _) | (with_reducible assumption) | (with_reducible refine Below.alloc ?_ ?_ _) | (with_reducible refine Below.drew ?_) | (with_reducible refine belowN ?_ _) | (with_reducible refine Below.setCell ?_ ?_ _) | (with_reducible refine belowG ?_ ?_) | (with_reducible refine le_sizeG ?_) | go_size | (simp [go_sem]; done))⟩
set_option maxHeartbeats 1000000 in
theorem reckon6s (s s2 : ByteArray) (hs : s.size ≤ 48) (hs2 : s2.size ≤ 48) (g : Nat) (w : World) (hg : g < w.heap.size) (c0 : w.cell? ⟨g, 0, none⟩ = some (.int .i64 3)) (c1 : w.cell? ⟨g, 1, none⟩ = some (.int .i64 0)) (c2 : w.cell? ⟨g, 2, none⟩ = some (.string s2)) :
    Calls Tryz.prog 66 #[.int .i64 6, .agg #[.int .i64 3, .int .i64 0, .string s], .slice (some ⟨g, 0, none⟩) 1 1] w (Ret (rkV (joinR s s2)) w) := by
  have H := fun wx => Lib.hid (join_any s s2 hs hs2 wx)
  have H := Lib.hid H
  generalize joinR s s2 = x at *
  go_enter Tryz.func66, Tryz.ntmps66
  go_wp2_with (first | ((with_reducible refine (alone_f (by decide) _).mono ?_); rintro e w1 ⟨rfl, rfl⟩) | ((with_reducible refine (result_t (by decide) _).mono ?_); rintro e w1 ⟨rfl, rfl⟩) | ((with_reducible refine ((H.out _).out).mono ?_); intro e w1 hr; obtain ⟨rfl, p, rfl⟩ := hr.out; clear hr; rw [rkV_def]))
  go_returns
  exact ⟨rfl, by repeat' (first | (with_reducible exact Below.refl _ _) | (with_reducible assumption) | (with_reducible refine Below.alloc ?_ ?_ _) | (with_reducible refine Below.drew ?_) | (with_reducible refine belowN ?_ _) | (with_reducible refine Below.setCell ?_ ?_ _) | (with_reducible refine belowG ?_ ?_) | (with_reducible refine le_sizeG ?_) | go_size | (simp [go_sem]; done))⟩
end Go.Proofs.YtlekmpjmcbnjdaaGreatDoor

