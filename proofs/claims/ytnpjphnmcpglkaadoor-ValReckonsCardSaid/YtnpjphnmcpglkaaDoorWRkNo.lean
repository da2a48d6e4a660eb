import Derived.Test.YtnpjphnmcpglkaaDoorWRk0
import Derived.WalkKit
import Derived.ProofKit
import Derived.OpenShut
import Derived.Handy
import Derived.BigQuiet
import Derived.Lib.Hide
import Derived.Deep.DeepCutAuto
import Derived.Deep.RegionHeld3
import Derived.Lib.Strings
import Derived.WalkLawsBesides
namespace Go.Proofs.YtnpjphnmcpglkaaDoor
open Go.RowKit
set_option maxRecDepth 100000 in
set_option maxHeartbeats 2000000 in
theorem reckons_no (op ka na : Int) (sa : ByteArray) (kb nb : Int) (sb : ByteArray) (za : sa.size ≤ maxLen) (zb : sb.size ≤ maxLen) (h : ¬ (rightB ka na sa = true ∧ rightB kb nb sb = true)) (w : World) :
    Calls Tryd.prog 3 #[.int .i64 op, .agg #[.int .i64 ka, .int .i64 na, .string sa], .agg #[.int .i64 kb, .int .i64 nb, .string sb]] w (Ret (.bool true) w) := by
  have ha := fun wx => Lib.hid (rright_any ka na sa wx za)
  have ha := Lib.hid ha
  have hb := fun wx => Lib.hid (rright_any kb nb sb wx zb)
  have hb := Lib.hid hb
  clear za zb
  rcases h1 : rightB ka na sa <;> rcases h2 : rightB kb nb sb
  all_goals
    rw [h1] at ha
    rw [h2] at hb
  case' true.true => exact absurd ⟨h1, h2⟩ h
  all_goals
    clear h1 h2 h
    go_enter Tryd.func3, Tryd.ntmps3
    go_wp2_with (first | ((with_reducible refine (anchor_any _).mono ?_); intro e w1 hr; obtain ⟨rfl, p, rfl⟩ := hr.out; clear hr) | ((with_reducible refine (ref_any _ _ _ _).mono ?_); intro e w1 hr; obtain ⟨rfl, p, rfl⟩ := hr.out; clear hr) | ((with_reducible refine ((ha.out _).out).mono ?_); intro e w1 hr; obtain ⟨rfl, p, rfl⟩ := hr.out; clear hr) | ((with_reducible refine ((hb.out _).out).mono ?_); intro e w1 hr; obtain ⟨rfl, p, rfl⟩ := hr.out; clear hr))
    go_returns
    exact ⟨rfl, by repeat' (first | (with_reducible exact Below.refl _ _) | (with_reducible assumption) | (with_reducible refine Below.alloc ?_ ?_ _) | (with_reducible refine Below.drew ?_) | (with_reducible refine belowN ?_ _) | (with_reducible refine Below.setCell ?_ ?_ _) | (with_reducible refine belowG ?_ ?_) | (with_reducible exact Nat.le_refl _) | (with_reducible refine le_sizeG ?_) | (with_reducible refine le_sizeA ?_) | (with_reducible refine le_sizeC ?_) | (with_reducible refine le_sizeD ?_) | (with_reducible refine le_sizeN ?_) | go_size | (simp [go_sem]; done))⟩
set_option maxRecDepth 100000 in
set_option maxHeartbeats 4000000 in
theorem reckons_bad (op ka na : Int) (sa : ByteArray) (kb nb : Int) (sb : ByteArray) (za : sa.size ≤ maxLen) (zb : sb.size ≤ maxLen) (ra : rightB ka na sa = true) (rb : rightB kb nb sb = true) (hr : resB op ka kb = false) (w : World) :
    Calls Tryd.prog 3 #[.int .i64 op, .agg #[.int .i64 ka, .int .i64 na, .string sa], .agg #[.int .i64 kb, .int .i64 nb, .string sb]] w (Ret (.bool true) w) := by
  have ha := fun wx => Lib.hid (rright_any ka na sa wx za)
  have ha := Lib.hid ha
  have hb := fun wx => Lib.hid (rright_any kb nb sb wx zb)
  have hb := Lib.hid hb
  rw [ra] at ha
  rw [rb] at hb
  have hK := Lib.hid (resK_f hr)
  have hr' := Lib.hid hr
  clear za zb ra rb
  rcases ho : aloneB op
  · have o1 : (op == 1) = false := by simp [aloneB] at ho; simpa using ho.1
    have o2 : (op == 2) = false := by simp [aloneB] at ho; simpa using ho.2
    have X := fun g wx h0 h1 h2 h3 => Lib.hid (reckon2_bad op ka na sa kb nb sb ho hr g wx h0 h1 h2 h3)
    have X := Lib.hid X
    have Y := fun wx => Lib.hid (reckon1_two op ka na sa ho wx)
    have Y := Lib.hid Y
    clear ho hr
    go_enter Tryd.func3, Tryd.ntmps3
    go_wp2_with (first | ((with_reducible refine (anchor_any _).mono ?_); intro e w1 hr; obtain ⟨rfl, p, rfl⟩ := hr.out; clear hr) | ((with_reducible refine (ref_any _ _ _ _).mono ?_); intro e w1 hr; obtain ⟨rfl, p, rfl⟩ := hr.out; clear hr) | ((with_reducible refine ((ha.out _).out).mono ?_); intro e w1 hr; obtain ⟨rfl, p, rfl⟩ := hr.out; clear hr) | ((with_reducible refine ((hb.out _).out).mono ?_); intro e w1 hr; obtain ⟨rfl, p, rfl⟩ := hr.out; clear hr) | ((with_reducible refine ((X.out _ _ (by simp [go_sem]) (by simp [go_sem]) (by simp [go_sem]) (by simp [go_sem])).out).mono ?_); intro e w1 hr; obtain ⟨rfl, p, rfl⟩ := hr.out; clear hr; rw [errR_def]) | ((with_reducible refine ((Y.out _).out).mono ?_); intro e w1 hr; obtain ⟨rfl, p, rfl⟩ := hr.out; clear hr; rw [errR_def]) | ((with_reducible refine (rresult_any _ _ _ _).mono ?_); rintro e w1 ⟨rfl, rfl⟩; rw [hK.out]) | ((with_reducible refine (result_f hr'.out _).mono ?_); rintro e w1 ⟨rfl, rfl⟩; rw [hK.out]))
    go_returns
    exact ⟨rfl, by repeat' (first | (with_reducible exact Below.refl _ _) | (with_reducible assumption) | (with_reducible refine Below.alloc ?_ ?_ _) | (with_reducible refine Below.drew ?_) | (with_reducible refine belowN ?_ _) | (with_reducible refine Below.setCell ?_ ?_ _) | (with_reducible refine belowG ?_ ?_) | (with_reducible exact Nat.le_refl _) | (with_reducible refine le_sizeG ?_) | (with_reducible refine le_sizeA ?_) | (with_reducible refine le_sizeC ?_) | (with_reducible refine le_sizeD ?_) | (with_reducible refine le_sizeN ?_) | go_size | (simp [go_sem]; done))⟩
  · have ho' : op = 1 ∨ op = 2 := by simpa [aloneB] using ho
    have X := fun g wx => Lib.hid (reckon2_alone op ka na sa ho g wx)
    have X := Lib.hid X
    have Y := fun wx => Lib.hid (reckon1_bad op ka na sa ho (by rw [← hr]; exact resB_alone ho) wx)
    have Y := Lib.hid Y
    clear ho hr
    rcases ho' with rfl | rfl
    all_goals
      go_enter Tryd.func3, Tryd.ntmps3
      go_wp2_with (first | ((with_reducible refine (anchor_any _).mono ?_); intro e w1 hr; obtain ⟨rfl, p, rfl⟩ := hr.out; clear hr) | ((with_reducible refine (ref_any _ _ _ _).mono ?_); intro e w1 hr; obtain ⟨rfl, p, rfl⟩ := hr.out; clear hr) | ((with_reducible refine ((ha.out _).out).mono ?_); intro e w1 hr; obtain ⟨rfl, p, rfl⟩ := hr.out; clear hr) | ((with_reducible refine ((hb.out _).out).mono ?_); intro e w1 hr; obtain ⟨rfl, p, rfl⟩ := hr.out; clear hr) | ((with_reducible refine ((X.out _ _).out).mono ?_); intro e w1 hr; obtain ⟨rfl, p, rfl⟩ := hr.out; clear hr; rw [errR_def]) | ((with_reducible refine ((Y.out _).out).mono ?_); intro e w1 hr; obtain ⟨rfl, p, rfl⟩ := hr.out; clear hr; rw [errR_def]) | ((with_reducible refine (rresult_any _ _ _ _).mono ?_); rintro e w1 ⟨rfl, rfl⟩; rw [hK.out]) | ((with_reducible refine (result_f hr'.out _).mono ?_); rintro e w1 ⟨rfl, rfl⟩; rw [hK.out]))
      all_goals first | go_returns | (go_outline; go_ways)
      exact ⟨rfl, by repeat' (first | (with_reducible exact Below.refl _ _) | (with_reducible assumption) | (with_reducible refine Below.alloc ?_ ?_ _) | (with_reducible refine Below.drew ?_) | (with_reducible refine belowN ?_ _) | (with_reducible refine Below.setCell ?_ ?_ _) | (with_reducible refine belowG ?_ ?_) | (with_reducible exact Nat.le_refl _) | (with_reducible refine le_sizeG ?_) | (with_reducible refine le_sizeA ?_) | (with_reducible refine le_sizeC ?_) | (with_reducible refine le_sizeD ?_) | (with_reducible refine le_sizeN ?_) | go_size | (simp [go_sem]; done))⟩
end Go.Proofs.YtnpjphnmcpglkaaDoor
