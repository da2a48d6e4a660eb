import Derived.Test.YtnpjphnmcpglkaaDoorRD
import Derived.Test.YtnpjphnmcpglkaaDoorAN
import Derived.Test.YtnpjphnmcpglkaaDoorE
import Derived.WalkKit
import Derived.ProofKit
import Derived.OpenShut
import Derived.Handy
import Derived.BigQuiet
import Derived.Lib.Hide
import Derived.Lib.Strings
import Derived.WalkLawsBesides
namespace Go.Proofs.YtnpjphnmcpglkaaDoor
open Go.RowKit
theorem shows_long (k n : Int) (s : ByteArray) (h : 300 < s.size) (w : World) : Calls Tryd.prog 5 #[.agg #[.int .i64 k, .int .i64 n, .string s]] w (Ret (.bool true) w) := by
  go_enter Tryd.func5, Tryd.ntmps5
  go_wp2_with ((with_reducible refine (anchor_any _).mono ?_); intro e w1 hr; obtain ⟨rfl, p, rfl⟩ := hr.out; clear hr)
  go_returns
  exact ⟨rfl, by repeat' (first | (with_reducible exact Below.refl _ _) | (with_reducible assumption) | (with_reducible refine Below.alloc ?_ ?_ _) | (with_reducible refine Below.drew ?_) | (with_reducible refine belowN ?_ _) | (with_reducible refine Below.setCell ?_ ?_ _) | (with_reducible refine belowG ?_ ?_) | (with_reducible exact Nat.le_refl _) | (with_reducible refine le_sizeG ?_) | (with_reducible refine le_sizeA ?_) | (with_reducible refine le_sizeC ?_) | (with_reducible refine le_sizeD ?_) | (with_reducible refine le_sizeN ?_) | go_size | (simp [go_sem]; done))⟩
theorem shows_no (k n : Int) (s : ByteArray) (z : s.size ≤ maxLen) (h : ¬ 300 < s.size) (hr : rightB k n s = false) (w : World) : Calls Tryd.prog 5 #[.agg #[.int .i64 k, .int .i64 n, .string s]] w (Ret (.bool true) w) := by
  have R := fun wx => Lib.hid (right_any k n s wx z)
  have R := Lib.hid R
  have RR := fun wx => Lib.hid (rright_any k n s wx z)
  have RR := Lib.hid RR
  have P := fun wx => Lib.hid (plain_any s wx z)
  have P := Lib.hid P
  have PP := fun wx => Lib.hid (rplain_any s wx z)
  have PP := Lib.hid PP
  have Y := fun wx => Lib.hid (yes_any k n s wx)
  have Y := Lib.hid Y
  have h' : s.size ≤ 300 := by omega
  have hy : yesB k n = ((k == 2) && n != 0) := rfl
  rw [hr] at R RR
  rw [hy] at Y
  clear z hr h hy
  generalize plainB s.data.toList = b at *
  go_enter Tryd.func5, Tryd.ntmps5
  go_upto_region 1 with (fail)
  go_cut [6] (fun v wx => v = .bool false ∧ C3 wx w.heap.size k n s ∧ Below w.heap.size w wx)
  case first =>
    go_wp2_with (first | ((with_reducible refine (anchor_any _).mono ?_); intro e w1 hr; obtain ⟨rfl, p, rfl⟩ := hr.out; clear hr))
    go_meet
    exact ⟨rfl, ⟨by simp [go_sem], by simp [go_sem], by simp [go_sem], by simp [go_sem]⟩, by repeat' (first | (with_reducible exact Below.refl _ _) | (with_reducible assumption) | (with_reducible refine Below.alloc ?_ ?_ _) | (with_reducible refine Below.drew ?_) | (with_reducible refine belowN ?_ _) | (with_reducible refine Below.setCell ?_ ?_ _) | (with_reducible refine belowG ?_ ?_) | (with_reducible exact Nat.le_refl _) | (with_reducible refine le_sizeG ?_) | (with_reducible refine le_sizeA ?_) | (with_reducible refine le_sizeC ?_) | (with_reducible refine le_sizeD ?_) | (with_reducible refine le_sizeN ?_) | go_size | (simp [go_sem]; done))⟩
  case rest =>
    obtain ⟨rfl, ⟨a0, a1, a2, a3⟩, hb⟩ := hcut
    rename World => wq
    have i1 : InW w.heap.size wq := ⟨a0⟩
    have hz := hb.size
    go_wp2_with fail
    rcases hk : (k == 2)
    all_goals
      rw [hk] at Y
      simp only [Bool.false_and, Bool.true_and] at Y
      (refine wp_region_G (by kernel_rfl) (by kernel_rfl) ?_; (repeat (go_big_quiet_step (first | exact quietG (ref_any _ _ _ _) | exact quietG ((R.out _).out) | exact quietG ((RR.out _).out) | exact quietGW ((P.out _).out) | exact quietGW ((PP.out _).out) | exact quietG ((Y.out _).out)))); refine wpQuiet_nil ?_; intro _ hw'; obtain ⟨pg, hw''⟩ := hw'; subst hw'')
      go_wp2_with (first | ((with_reducible refine ((R.out _).out).mono ?_); intro e w1 hr; obtain ⟨rfl, p, rfl⟩ := hr.out; clear hr))
      go_returns
      exact ⟨rfl, by repeat' (first | (with_reducible exact Below.refl _ _) | (with_reducible assumption) | (with_reducible refine Below.alloc ?_ ?_ _) | (with_reducible refine Below.drew ?_) | (with_reducible refine belowN ?_ _) | (with_reducible refine Below.setCell ?_ ?_ _) | (with_reducible refine belowG ?_ ?_) | (with_reducible exact Nat.le_refl _) | (with_reducible refine le_sizeG ?_) | (with_reducible refine le_sizeA ?_) | (with_reducible refine le_sizeC ?_) | (with_reducible refine le_sizeD ?_) | (with_reducible refine le_sizeN ?_) | go_size | (simp [go_sem]; done))⟩
set_option maxRecDepth 100000 in
set_option maxHeartbeats 2000000 in
theorem shows_yes (k n : Int) (s : ByteArray) (hr : rightB k n s = true) (hn : I64 n) (w : World) (ht : Tab w) : Calls Tryd.prog 5 #[.agg #[.int .i64 k, .int .i64 n, .string s]] w (Ret (.bool true) w) := by
  have z := right_size k n s hr
  have R := fun wx => Lib.hid (right_any k n s wx z)
  have R := Lib.hid R
  have RR := fun wx => Lib.hid (rright_any k n s wx z)
  have RR := Lib.hid RR
  have P := fun wx => Lib.hid (plain_any s wx z)
  have P := Lib.hid P
  have PP := fun wx => Lib.hid (rplain_any s wx z)
  have PP := Lib.hid PP
  have Y := fun wx => Lib.hid (yes_any k n s wx)
  have Y := Lib.hid Y
  have S := fun wx (h : Below w.heap.size w wx) => Lib.hid (show_any k n s hr hn wx (tab_below ht h))
  have S := Lib.hid S
  have D := fun wx (h : Below w.heap.size w wx) => Lib.hid (read_any k n s hr hn wx (tab_below ht h))
  have D := Lib.hid D
  have SS := fun wx => Lib.hid (rshow_any k n s hr hn wx)
  have SS := Lib.hid SS
  have h' : s.size ≤ 300 := by
    rcases right_cases k n s hr with ⟨rfl, rfl⟩ | ⟨rfl, rfl, _⟩ | ⟨rfl, rfl, h⟩
    · decide
    · decide
    · omega
  have hy : yesB k n = ((k == 2) && n != 0) := rfl
  rw [hr] at R RR
  rw [hy] at Y
  clear z hr hy hn ht
  generalize plainB s.data.toList = b at *
  generalize showS k n s = t at *
  go_enter Tryd.func5, Tryd.ntmps5
  go_upto_region 1 with (fail)
  go_cut [6] (fun v wx => v = .bool false ∧ C3 wx w.heap.size k n s ∧ Below w.heap.size w wx)
  case first =>
    go_wp2_with (first | ((with_reducible refine (anchor_any _).mono ?_); intro e w1 hr; obtain ⟨rfl, p, rfl⟩ := hr.out; clear hr))
    go_meet
    exact ⟨rfl, ⟨by simp [go_sem], by simp [go_sem], by simp [go_sem], by simp [go_sem]⟩, by repeat' (first | (with_reducible exact Below.refl _ _) | (with_reducible assumption) | (with_reducible refine Below.alloc ?_ ?_ _) | (with_reducible refine Below.drew ?_) | (with_reducible refine belowN ?_ _) | (with_reducible refine Below.setCell ?_ ?_ _) | (with_reducible refine belowG ?_ ?_) | (with_reducible exact Nat.le_refl _) | (with_reducible refine le_sizeG ?_) | (with_reducible refine le_sizeA ?_) | (with_reducible refine le_sizeC ?_) | (with_reducible refine le_sizeD ?_) | (with_reducible refine le_sizeN ?_) | go_size | (simp [go_sem]; done))⟩
  case rest =>
    obtain ⟨rfl, ⟨a0, a1, a2, a3⟩, hb⟩ := hcut
    rename World => wq
    have i1 : InW w.heap.size wq := ⟨a0⟩
    have hz := hb.size
    go_wp2_with fail
    rcases hk : (k == 2)
    all_goals
      rw [hk] at Y
      simp only [Bool.false_and, Bool.true_and] at Y
      (refine wp_region_G (by kernel_rfl) (by kernel_rfl) ?_; (repeat (go_big_quiet_step (first | exact quietG (ref_any _ _ _ _) | exact quietG ((R.out _).out) | exact quietG ((RR.out _).out) | exact quietGW ((P.out _).out) | exact quietGW ((PP.out _).out) | exact quietG ((Y.out _).out)))); refine wpQuiet_nil ?_; intro _ hw'; obtain ⟨pg, hw''⟩ := hw'; subst hw'')
      clear hk
      go_upto_region 9 with (first | ((with_reducible refine ((R.out _).out).mono ?_); intro e w1 hr; obtain ⟨rfl, p, rfl⟩ := hr.out; clear hr))
      go_cut [3, 4] (fun v1 v2 wx => ∃ g : Nat, v1 = .pointer (some ⟨g, 0, none⟩) ∧ v2 = .int .i64 0 ∧ C3 wx g k n s ∧ C3 wx w.heap.size k n s ∧ Below w.heap.size w wx)
      case first =>
        go_wp2_with (first | ((with_reducible refine ((R.out _).out).mono ?_); intro e w1 hr; obtain ⟨rfl, p, rfl⟩ := hr.out; clear hr) | ((with_reducible refine ((S.out _ (by repeat' (first | (with_reducible exact Below.refl _ _) | (with_reducible assumption) | (with_reducible refine Below.alloc ?_ ?_ _) | (with_reducible refine Below.drew ?_) | (with_reducible refine belowN ?_ _) | (with_reducible refine Below.setCell ?_ ?_ _) | (with_reducible refine belowG ?_ ?_) | (with_reducible exact Nat.le_refl _) | (with_reducible refine le_sizeG ?_) | (with_reducible refine le_sizeA ?_) | (with_reducible refine le_sizeC ?_) | (with_reducible refine le_sizeD ?_) | (with_reducible refine le_sizeN ?_) | go_size | (simp [go_sem]; done)))).out).mono ?_); intro e w1 hr; obtain ⟨rfl, p, rfl⟩ := hr.out; clear hr) | ((with_reducible refine ((D.out _ (by repeat' (first | (with_reducible exact Below.refl _ _) | (with_reducible assumption) | (with_reducible refine Below.alloc ?_ ?_ _) | (with_reducible refine Below.drew ?_) | (with_reducible refine belowN ?_ _) | (with_reducible refine Below.setCell ?_ ?_ _) | (with_reducible refine belowG ?_ ?_) | (with_reducible exact Nat.le_refl _) | (with_reducible refine le_sizeG ?_) | (with_reducible refine le_sizeA ?_) | (with_reducible refine le_sizeC ?_) | (with_reducible refine le_sizeD ?_) | (with_reducible refine le_sizeN ?_) | go_size | (simp [go_sem]; done)))).out).mono ?_); intro e w1 hr; obtain ⟨rfl, p, rfl⟩ := hr.out; clear hr))
        go_meet
        exact ⟨_, rfl, rfl, ⟨by simp [go_sem], by simp [go_sem], by simp [go_sem], by simp [go_sem]⟩, ⟨by simp [go_sem], by simp [go_sem, a1], by simp [go_sem, a2], by simp [go_sem, a3]⟩, by repeat' (first | (with_reducible exact Below.refl _ _) | (with_reducible assumption) | (with_reducible refine Below.alloc ?_ ?_ _) | (with_reducible refine Below.drew ?_) | (with_reducible refine belowN ?_ _) | (with_reducible refine Below.setCell ?_ ?_ _) | (with_reducible refine belowG ?_ ?_) | (with_reducible exact Nat.le_refl _) | (with_reducible refine le_sizeG ?_) | (with_reducible refine le_sizeA ?_) | (with_reducible refine le_sizeC ?_) | (with_reducible refine le_sizeD ?_) | (with_reducible refine le_sizeN ?_) | go_size | (simp [go_sem]; done))⟩
      case rest =>
        clear a0 a1 a2 a3 i1 hz hb
        obtain ⟨g, rfl, rfl, ⟨g0, g1, g2, g3⟩, ⟨a0, a1, a2, a3⟩, hb⟩ := hcut
        rename World => ws
        have i1 : InW w.heap.size ws := ⟨a0⟩
        have i2 : InW g ws := ⟨g0⟩
        have hz := hb.size
        go_wp2_with fail
        (refine wp_region_G (by kernel_rfl) (by kernel_rfl) ?_; (repeat (go_big_quiet_step (first | exact quietG (ref_any _ _ _ _) | exact quietG ((SS.out _).out) | exact quietG ((S.out _ (hb.trans (Below.mono (belowG0 _ _) hb.size))).out)))); refine wpQuiet_nil ?_; intro _ hw'; obtain ⟨pg, hw''⟩ := hw'; subst hw'')
        go_wp2
        go_returns
        exact ⟨rfl, by repeat' (first | (with_reducible exact Below.refl _ _) | (with_reducible assumption) | (with_reducible refine Below.alloc ?_ ?_ _) | (with_reducible refine Below.drew ?_) | (with_reducible refine belowN ?_ _) | (with_reducible refine Below.setCell ?_ ?_ _) | (with_reducible refine belowG ?_ ?_) | (with_reducible exact Nat.le_refl _) | (with_reducible refine le_sizeG ?_) | (with_reducible refine le_sizeA ?_) | (with_reducible refine le_sizeC ?_) | (with_reducible refine le_sizeD ?_) | (with_reducible refine le_sizeN ?_) | go_size | (simp [go_sem]; done))⟩
/-- The walk of ValShows: any value is right just if the document says so; a right one is shown as the document shows it, and read again. -/
theorem shows_walk (k n : Int) (s : ByteArray) (hn : I64 n) (z : s.size ≤ maxLen) (w : World) (ht : Tab w) : Calls Tryd.prog 5 #[.agg #[.int .i64 k, .int .i64 n, .string s]] w (Ret (.bool true) w) := by
  by_cases h : 300 < s.size
  · exact shows_long k n s h w
  · rcases hr : rightB k n s
    · exact shows_no k n s z h hr w
    · exact shows_yes k n s hr hn w ht
end Go.Proofs.YtnpjphnmcpglkaaDoor
