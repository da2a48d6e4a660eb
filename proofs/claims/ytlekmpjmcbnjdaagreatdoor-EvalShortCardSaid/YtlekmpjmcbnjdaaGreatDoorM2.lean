import Derived.Test.YtlekmpjmcbnjdaaGreatDoorZ3
import Derived.WalkKit
import Derived.ProofKit
import Derived.OpenShut
import Derived.Handy
import Derived.BigQuiet
import Derived.Lib.Hide
import Derived.WalkLawsBesides
namespace Go.Proofs.YtlekmpjmcbnjdaaGreatDoor
open Go.RowKit
set_option maxHeartbeats 1000000 in
theorem reckonCn (op : Int) (ho : op = 8 ∨ op = 9 ∨ op = 10 ∨ op = 11) (n n2 : Int) (g : Nat) (w : World) (hg : g < w.heap.size) (c0 : w.cell? ⟨g, 0, none⟩ = some (.int .i64 1)) (c1 : w.cell? ⟨g, 1, none⟩ = some (.int .i64 n2)) (c2 : w.cell? ⟨g, 2, none⟩ = some (.string ⟨#[]⟩)) :
    Calls Tryz.prog 66 #[.int .i64 op, .agg #[.int .i64 1, .int .i64 n, .string ⟨#[]⟩], .slice (some ⟨g, 0, none⟩) 1 1] w (Ret (rkV (trR (standB op (cmpI n n2)))) w) := by
  rcases ho with rfl | rfl | rfl | rfl
  all_goals
    go_enter Tryz.func66, Tryz.ntmps66
    go_wp2_with (first | ((with_reducible refine (alone_f (by decide) _).mono ?_); rintro e w1 ⟨rfl, rfl⟩) | ((with_reducible refine (result_t (by decide) _).mono ?_); rintro e w1 ⟨rfl, rfl⟩) | ((with_reducible refine (order_n 1 (by decide) _ _ _ _ _ _).mono ?_); intro e w1 hr; obtain ⟨rfl, p, rfl⟩ := hr.out; clear hr) | ((with_reducible refine (stand_any _ _ (by decide) _).mono ?_); rintro e w1 ⟨rfl, rfl⟩) | ((with_reducible refine (truth_any _ _).mono ?_); intro e w1 hr; obtain ⟨rfl, p, rfl⟩ := hr.out; clear hr))
    go_returns
    exact ⟨rfl, by repeat' (first | (with_reducible exact Below.refl _ _) | (with_reducible assumption) | (with_reducible refine Below.alloc ?_ ?_ _) | (with_reducible refine Below.drew ?_) | (with_reducible refine belowN ?_ _) | (with_reducible refine Below.setCell ?_ ?_ _) | (with_reducible refine belowG ?_ ?_) | (with_reducible refine le_sizeG ?_) | go_size | (simp [go_sem]; done))⟩
set_option maxHeartbeats 1000000 in
theorem reckonCs (op : Int) (ho : op = 8 ∨ op = 9 ∨ op = 10 ∨ op = 11) (n n2 : Int) (s s2 : ByteArray) (g : Nat) (w : World) (hg : g < w.heap.size) (c0 : w.cell? ⟨g, 0, none⟩ = some (.int .i64 3)) (c1 : w.cell? ⟨g, 1, none⟩ = some (.int .i64 n2)) (c2 : w.cell? ⟨g, 2, none⟩ = some (.string s2)) :
    Calls Tryz.prog 66 #[.int .i64 op, .agg #[.int .i64 3, .int .i64 n, .string s], .slice (some ⟨g, 0, none⟩) 1 1] w (Ret (rkV (trR (standB op (cmpS s s2)))) w) := by
  rcases ho with rfl | rfl | rfl | rfl
  all_goals
    go_enter Tryz.func66, Tryz.ntmps66
    go_wp2_with (first | ((with_reducible refine (alone_f (by decide) _).mono ?_); rintro e w1 ⟨rfl, rfl⟩) | ((with_reducible refine (result_t (by decide) _).mono ?_); rintro e w1 ⟨rfl, rfl⟩) | ((with_reducible refine (order_s _ _ _ _ _ _).mono ?_); intro e w1 hr; obtain ⟨rfl, p, rfl⟩ := hr.out; clear hr) | ((with_reducible refine (stand_any _ _ (by decide) _).mono ?_); rintro e w1 ⟨rfl, rfl⟩) | ((with_reducible refine (truth_any _ _).mono ?_); intro e w1 hr; obtain ⟨rfl, p, rfl⟩ := hr.out; clear hr))
    go_returns
    exact ⟨rfl, by repeat' (first | (with_reducible exact Below.refl _ _) | (with_reducible assumption) | (with_reducible refine Below.alloc ?_ ?_ _) | (with_reducible refine Below.drew ?_) | (with_reducible refine belowN ?_ _) | (with_reducible refine Below.setCell ?_ ?_ _) | (with_reducible refine belowG ?_ ?_) | (with_reducible refine le_sizeG ?_) | go_size | (simp [go_sem]; done))⟩
set_option maxHeartbeats 1000000 in
theorem reckonE (op : Int) (ho : op = 12 ∨ op = 13) (k : Int) (hk : k = 1 ∨ k = 2 ∨ k = 3) (n n2 : Int) (s s2 : ByteArray) (g : Nat) (w : World) (hg : g < w.heap.size) (c0 : w.cell? ⟨g, 0, none⟩ = some (.int .i64 k)) (c1 : w.cell? ⟨g, 1, none⟩ = some (.int .i64 n2)) (c2 : w.cell? ⟨g, 2, none⟩ = some (.string s2)) :
    Calls Tryz.prog 66 #[.int .i64 op, .agg #[.int .i64 k, .int .i64 n, .string s], .slice (some ⟨g, 0, none⟩) 1 1] w (Ret (rkV (trR (if op = 12 then eqB n s n2 s2 else !eqB n s n2 s2))) w) := by
  have hr := Lib.hid (show resB op k k = true by rcases ho with rfl | rfl <;> rcases hk with rfl | rfl | rfl <;> decide)
  have hd : Hid (eqB n s n2 s2 = (n == n2 && s.toList == s2.toList)) := rfl
  clear hk
  rcases h1 : (n == n2)
  · have hv := Lib.hid (show eqB n s n2 s2 = false by rw [hd.out, h1]; rfl)
    clear hd
    rcases ho with rfl | rfl
    all_goals
      go_enter Tryz.func66, Tryz.ntmps66
      go_wp2_with (first | ((with_reducible refine (alone_f (by decide) _).mono ?_); rintro e w1 ⟨rfl, rfl⟩) | ((with_reducible refine (result_t hr.out _).mono ?_); rintro e w1 ⟨rfl, rfl⟩) | ((with_reducible refine (truth_any _ _).mono ?_); intro e w1 hr; obtain ⟨rfl, p, rfl⟩ := hr.out; clear hr))
      go_returns
      exact ⟨by rw [hv.out]; rfl, by repeat' (first | (with_reducible exact Below.refl _ _) | (with_reducible assumption) | (with_reducible refine Below.alloc ?_ ?_ _) | (with_reducible refine Below.drew ?_) | (with_reducible refine belowN ?_ _) | (with_reducible refine Below.setCell ?_ ?_ _) | (with_reducible refine belowG ?_ ?_) | (with_reducible refine le_sizeG ?_) | go_size | (simp [go_sem]; done))⟩
  · obtain rfl : n = n2 := by simpa using h1
    clear h1
    rcases h2 : (s.toList == s2.toList)
    · have hv := Lib.hid (show eqB n s n s2 = false by rw [hd.out, h2]; simp)
      clear hd
      rcases ho with rfl | rfl
      all_goals
        go_enter Tryz.func66, Tryz.ntmps66
        go_wp2_with (first | ((with_reducible refine (alone_f (by decide) _).mono ?_); rintro e w1 ⟨rfl, rfl⟩) | ((with_reducible refine (result_t hr.out _).mono ?_); rintro e w1 ⟨rfl, rfl⟩) | ((with_reducible refine (truth_any _ _).mono ?_); intro e w1 hr; obtain ⟨rfl, p, rfl⟩ := hr.out; clear hr))
        go_returns
        exact ⟨by rw [hv.out]; rfl, by repeat' (first | (with_reducible exact Below.refl _ _) | (with_reducible assumption) | (with_reducible refine Below.alloc ?_ ?_ _) | (with_reducible refine Below.drew ?_) | (with_reducible refine belowN ?_ _) | (with_reducible refine Below.setCell ?_ ?_ _) | (with_reducible refine belowG ?_ ?_) | (with_reducible refine le_sizeG ?_) | go_size | (simp [go_sem]; done))⟩
    · have hv := Lib.hid (show eqB n s n s2 = true by rw [hd.out, h2]; simp)
      clear hd
      rcases ho with rfl | rfl
      all_goals
        go_enter Tryz.func66, Tryz.ntmps66
        go_wp2_with (first | ((with_reducible refine (alone_f (by decide) _).mono ?_); rintro e w1 ⟨rfl, rfl⟩) | ((with_reducible refine (result_t hr.out _).mono ?_); rintro e w1 ⟨rfl, rfl⟩) | ((with_reducible refine (truth_any _ _).mono ?_); intro e w1 hr; obtain ⟨rfl, p, rfl⟩ := hr.out; clear hr))
        go_returns
        exact ⟨by rw [hv.out]; rfl, by repeat' (first | (with_reducible exact Below.refl _ _) | (with_reducible assumption) | (with_reducible refine Below.alloc ?_ ?_ _) | (with_reducible refine Below.drew ?_) | (with_reducible refine belowN ?_ _) | (with_reducible refine Below.setCell ?_ ?_ _) | (with_reducible refine belowG ?_ ?_) | (with_reducible refine le_sizeG ?_) | go_size | (simp [go_sem]; done))⟩
set_option maxHeartbeats 1000000 in
theorem reckonL (op : Int) (ho : op = 14 ∨ op = 15) (n n2 : Int) (hn : n = 0 ∨ n = 1) (hn2 : n2 = 0 ∨ n2 = 1) (g : Nat) (w : World) (hg : g < w.heap.size) (c0 : w.cell? ⟨g, 0, none⟩ = some (.int .i64 2)) (c1 : w.cell? ⟨g, 1, none⟩ = some (.int .i64 n2)) (c2 : w.cell? ⟨g, 2, none⟩ = some (.string ⟨#[]⟩)) :
    Calls Tryz.prog 66 #[.int .i64 op, .agg #[.int .i64 2, .int .i64 n, .string ⟨#[]⟩], .slice (some ⟨g, 0, none⟩) 1 1] w (Ret (rkV (trR (if op = 14 then (n == 1 && n2 == 1) else (n == 1 || n2 == 1)))) w) := by
  have y0 : Hid (yesB 2 0 = false) := by show yesB 2 0 = false; decide
  have y1 : Hid (yesB 2 1 = true) := by show yesB 2 1 = true; decide
  rcases ho with rfl | rfl <;> rcases hn with rfl | rfl <;> rcases hn2 with rfl | rfl
  all_goals
    go_enter Tryz.func66, Tryz.ntmps66
    go_wp2_with (first | ((with_reducible refine (alone_f (by decide) _).mono ?_); rintro e w1 ⟨rfl, rfl⟩) | ((with_reducible refine (result_t (by decide) _).mono ?_); rintro e w1 ⟨rfl, rfl⟩) | ((with_reducible refine (yes_any 2 0 _ _).mono ?_); intro e w1 hr; obtain ⟨rfl, p, rfl⟩ := hr.out; clear hr; rw [y0.out]) | ((with_reducible refine (yes_any 2 1 _ _).mono ?_); intro e w1 hr; obtain ⟨rfl, p, rfl⟩ := hr.out; clear hr; rw [y1.out]) | ((with_reducible refine (truth_any _ _).mono ?_); intro e w1 hr; obtain ⟨rfl, p, rfl⟩ := hr.out; clear hr))
    go_returns
    exact ⟨rfl, by repeat' (first | (with_reducible exact Below.refl _ _) | (with_reducible assumption) | (with_reducible refine Below.alloc ?_ ?_ _) | (with_reducible refine Below.drew ?_) | (with_reducible refine belowN ?_ _) | (with_reducible refine Below.setCell ?_ ?_ _) | (with_reducible refine belowG ?_ ?_) | (with_reducible refine le_sizeG ?_) | go_size | (simp [go_sem]; done))⟩
end Go.Proofs.YtlekmpjmcbnjdaaGreatDoor

