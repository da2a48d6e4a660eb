import Derived.Test.YtnpjphnmcpglkaaDoorR3
import Derived.WalkKit
import Derived.ProofKit
import Derived.OpenShut
import Derived.Handy
import Derived.BigQuiet
import Derived.Lib.Hide
import Derived.Deep.DeepCutAuto
import Derived.Lib.Strings
import Derived.WalkLawsBesides
namespace Go.Proofs.YtnpjphnmcpglkaaDoor
open Go.RowKit
/-- The three values' boxes, and what there was. -/
structure Box3 (w : World) (ka na : Int) (sa : ByteArray) (kb nb : Int) (sb : ByteArray) (kc nc : Int) (sc : ByteArray) (wx : World) : Prop where
  a : C3 wx w.heap.size ka na sa
  b : C3 wx (w.heap.size + 1) kb nb sb
  c : C3 wx (w.heap.size + 1 + 1) kc nc sc
  below : Below w.heap.size w wx
theorem box3_keep {w wx wy : World} {ka na : Int} {sa : ByteArray} {kb nb : Int} {sb : ByteArray} {kc nc : Int} {sc : ByteArray} (h : Box3 w ka na sa kb nb sb kc nc sc wx) (hb : Below wx.heap.size wx wy) : Box3 w ka na sa kb nb sb kc nc sc wy :=
  ⟨c3_keep h.a hb, c3_keep h.b hb, c3_keep h.c hb, h.below.trans (hb.mono h.below.size)⟩
set_option maxRecDepth 100000 in
set_option maxHeartbeats 2000000 in
theorem orders_no (ka na : Int) (sa : ByteArray) (kb nb : Int) (sb : ByteArray) (kc nc : Int) (sc : ByteArray) (za : sa.size ≤ maxLen) (zb : sb.size ≤ maxLen) (zc : sc.size ≤ maxLen) (h : ¬ (rightB ka na sa = true ∧ rightB kb nb sb = true ∧ rightB kc nc sc = true ∧ ka = kb ∧ kb = kc ∧ ka ≠ 2)) (w : World) :
    Calls Tryd.prog 8 #[.agg #[.int .i64 ka, .int .i64 na, .string sa], .agg #[.int .i64 kb, .int .i64 nb, .string sb], .agg #[.int .i64 kc, .int .i64 nc, .string sc]] w (Ret (.bool true) w) := by
  have ha := fun wx => Lib.hid (rright_any ka na sa wx za)
  have ha := Lib.hid ha
  have hb := fun wx => Lib.hid (rright_any kb nb sb wx zb)
  have hb := Lib.hid hb
  have hc := fun wx => Lib.hid (rright_any kc nc sc wx zc)
  have hc := Lib.hid hc
  clear za zb zc
  rcases h1 : rightB ka na sa <;> rcases h2 : rightB kb nb sb <;> rcases h3 : rightB kc nc sc
  all_goals
    rw [h1] at ha
    rw [h2] at hb
    rw [h3] at hc
    simp only [h1, h2, h3, true_and, false_and, not_false_eq_true, Bool.false_eq_true, and_false] at h
  all_goals
    clear h1 h2 h3
  case' true.true.true =>
    by_cases k1 : ka = kb
    · subst k1
      by_cases k2 : ka = kc
      · subst k2
        have k3 : ka = 2 := by simpa using h
        subst k3
        clear h
        go_enter Tryd.func8, Tryd.ntmps8
        go_wp2_with (first | ((with_reducible refine (anchor_any _).mono ?_); intro e w1 hr; obtain ⟨rfl, p, rfl⟩ := hr.out; clear hr) | ((with_reducible refine (ref_any _ _ _ _).mono ?_); intro e w1 hr; obtain ⟨rfl, p, rfl⟩ := hr.out; clear hr) | ((with_reducible refine ((ha.out _).out).mono ?_); intro e w1 hr; obtain ⟨rfl, p, rfl⟩ := hr.out; clear hr) | ((with_reducible refine ((hb.out _).out).mono ?_); intro e w1 hr; obtain ⟨rfl, p, rfl⟩ := hr.out; clear hr) | ((with_reducible refine ((hc.out _).out).mono ?_); intro e w1 hr; obtain ⟨rfl, p, rfl⟩ := hr.out; clear hr))
        go_returns
        exact ⟨rfl, by repeat' (first | (with_reducible exact Below.refl _ _) | (with_reducible assumption) | (with_reducible refine Below.alloc ?_ ?_ _) | (with_reducible refine Below.drew ?_) | (with_reducible refine belowN ?_ _) | (with_reducible refine Below.setCell ?_ ?_ _) | (with_reducible refine belowG ?_ ?_) | (with_reducible exact Nat.le_refl _) | (with_reducible refine le_sizeG ?_) | (with_reducible refine le_sizeA ?_) | (with_reducible refine le_sizeC ?_) | (with_reducible refine le_sizeD ?_) | (with_reducible refine le_sizeN ?_) | go_size | (simp [go_sem]; done))⟩
      · have k2' : (ka == kc) = false := by simpa using k2
        have k2n : (ka != kc) = true := by rw [bne, k2']; rfl
        clear h
        go_enter Tryd.func8, Tryd.ntmps8
        go_wp2_with (first | ((with_reducible refine (anchor_any _).mono ?_); intro e w1 hr; obtain ⟨rfl, p, rfl⟩ := hr.out; clear hr) | ((with_reducible refine (ref_any _ _ _ _).mono ?_); intro e w1 hr; obtain ⟨rfl, p, rfl⟩ := hr.out; clear hr) | ((with_reducible refine ((ha.out _).out).mono ?_); intro e w1 hr; obtain ⟨rfl, p, rfl⟩ := hr.out; clear hr) | ((with_reducible refine ((hb.out _).out).mono ?_); intro e w1 hr; obtain ⟨rfl, p, rfl⟩ := hr.out; clear hr) | ((with_reducible refine ((hc.out _).out).mono ?_); intro e w1 hr; obtain ⟨rfl, p, rfl⟩ := hr.out; clear hr))
        go_returns
        exact ⟨rfl, by repeat' (first | (with_reducible exact Below.refl _ _) | (with_reducible assumption) | (with_reducible refine Below.alloc ?_ ?_ _) | (with_reducible refine Below.drew ?_) | (with_reducible refine belowN ?_ _) | (with_reducible refine Below.setCell ?_ ?_ _) | (with_reducible refine belowG ?_ ?_) | (with_reducible exact Nat.le_refl _) | (with_reducible refine le_sizeG ?_) | (with_reducible refine le_sizeA ?_) | (with_reducible refine le_sizeC ?_) | (with_reducible refine le_sizeD ?_) | (with_reducible refine le_sizeN ?_) | go_size | (simp [go_sem]; done))⟩
    · have k1' : (ka == kb) = false := by simpa using k1
      have k1n : (ka != kb) = true := by rw [bne, k1']; rfl
      clear h
      go_enter Tryd.func8, Tryd.ntmps8
      go_wp2_with (first | ((with_reducible refine (anchor_any _).mono ?_); intro e w1 hr; obtain ⟨rfl, p, rfl⟩ := hr.out; clear hr) | ((with_reducible refine (ref_any _ _ _ _).mono ?_); intro e w1 hr; obtain ⟨rfl, p, rfl⟩ := hr.out; clear hr) | ((with_reducible refine ((ha.out _).out).mono ?_); intro e w1 hr; obtain ⟨rfl, p, rfl⟩ := hr.out; clear hr) | ((with_reducible refine ((hb.out _).out).mono ?_); intro e w1 hr; obtain ⟨rfl, p, rfl⟩ := hr.out; clear hr) | ((with_reducible refine ((hc.out _).out).mono ?_); intro e w1 hr; obtain ⟨rfl, p, rfl⟩ := hr.out; clear hr))
      go_returns
      exact ⟨rfl, by repeat' (first | (with_reducible exact Below.refl _ _) | (with_reducible assumption) | (with_reducible refine Below.alloc ?_ ?_ _) | (with_reducible refine Below.drew ?_) | (with_reducible refine belowN ?_ _) | (with_reducible refine Below.setCell ?_ ?_ _) | (with_reducible refine belowG ?_ ?_) | (with_reducible exact Nat.le_refl _) | (with_reducible refine le_sizeG ?_) | (with_reducible refine le_sizeA ?_) | (with_reducible refine le_sizeC ?_) | (with_reducible refine le_sizeD ?_) | (with_reducible refine le_sizeN ?_) | go_size | (simp [go_sem]; done))⟩
  all_goals
    go_enter Tryd.func8, Tryd.ntmps8
    go_wp2_with (first | ((with_reducible refine (anchor_any _).mono ?_); intro e w1 hr; obtain ⟨rfl, p, rfl⟩ := hr.out; clear hr) | ((with_reducible refine (ref_any _ _ _ _).mono ?_); intro e w1 hr; obtain ⟨rfl, p, rfl⟩ := hr.out; clear hr) | ((with_reducible refine ((ha.out _).out).mono ?_); intro e w1 hr; obtain ⟨rfl, p, rfl⟩ := hr.out; clear hr) | ((with_reducible refine ((hb.out _).out).mono ?_); intro e w1 hr; obtain ⟨rfl, p, rfl⟩ := hr.out; clear hr) | ((with_reducible refine ((hc.out _).out).mono ?_); intro e w1 hr; obtain ⟨rfl, p, rfl⟩ := hr.out; clear hr))
    go_returns
    exact ⟨rfl, by repeat' (first | (with_reducible exact Below.refl _ _) | (with_reducible assumption) | (with_reducible refine Below.alloc ?_ ?_ _) | (with_reducible refine Below.drew ?_) | (with_reducible refine belowN ?_ _) | (with_reducible refine Below.setCell ?_ ?_ _) | (with_reducible refine belowG ?_ ?_) | (with_reducible exact Nat.le_refl _) | (with_reducible refine le_sizeG ?_) | (with_reducible refine le_sizeA ?_) | (with_reducible refine le_sizeC ?_) | (with_reducible refine le_sizeD ?_) | (with_reducible refine le_sizeN ?_) | go_size | (simp [go_sem]; done))⟩
set_option maxRecDepth 100000 in
set_option maxHeartbeats 8000000 in
theorem orders_yes (k na : Int) (sa : ByteArray) (nb : Int) (sb : ByteArray) (nc : Int) (sc : ByteArray) (Ia : I64 na) (Ib : I64 nb) (Ic : I64 nc) (za : sa.size ≤ maxLen) (zb : sb.size ≤ maxLen) (zc : sc.size ≤ maxLen)
    (ra : rightB k na sa = true) (rb : rightB k nb sb = true) (rc : rightB k nc sc = true) (hk : k ≠ 2) (w : World) :
    Calls Tryd.prog 8 #[.agg #[.int .i64 k, .int .i64 na, .string sa], .agg #[.int .i64 k, .int .i64 nb, .string sb], .agg #[.int .i64 k, .int .i64 nc, .string sc]] w (Ret (.bool true) w) := by
  have t1 := less_tri k na sa nb sb ra rb hk
  have t2 := less_trans k na sa nb sb nc sc
  have t3 := less_ne k na sa nb sb ra rb hk
  have ha := fun wx => Lib.hid (rright_any k na sa wx za)
  have ha := Lib.hid ha
  have hb := fun wx => Lib.hid (rright_any k nb sb wx zb)
  have hb := Lib.hid hb
  have hc := fun wx => Lib.hid (rright_any k nc sc wx zc)
  have hc := Lib.hid hc
  have x := fun g wx h0 h1 h2 h3 => Lib.hid (lessV_any k na sa nb sb ra rb hk Ia Ib g wx h0 h1 h2 h3)
  have x := Lib.hid x
  have y := fun g wx h0 h1 h2 h3 => Lib.hid (lessV_any k nb sb nc sc rb rc hk Ib Ic g wx h0 h1 h2 h3)
  have y := Lib.hid y
  have z := fun g wx h0 h1 h2 h3 => Lib.hid (lessV_any k na sa nc sc ra rc hk Ia Ic g wx h0 h1 h2 h3)
  have z := Lib.hid z
  have m := fun g wx h0 h1 h2 h3 => Lib.hid (moreV_any k na sa nb sb ra rb hk Ia Ib g wx h0 h1 h2 h3)
  have m := Lib.hid m
  have q := fun g wx h0 h1 h2 h3 => Lib.hid (sameV_any k na sa nb sb ra rb Ia Ib g wx h0 h1 h2 h3)
  have q := Lib.hid q
  rw [ra] at ha
  rw [rb] at hb
  rw [rc] at hc
  have k2 : (k == 2) = false := by simpa using hk
  clear ra rb rc hk za zb zc Ia Ib Ic
  rw [t1] at m
  generalize lessB k na sa nb sb = X at *
  generalize lessB k nb sb nc sc = Y at *
  generalize lessB k na sa nc sc = Z at *
  generalize eqB na sa nb sb = Q at *
  generalize hM : (!X && !Q) = M at *
  have T := Lib.hid (show (X = true → Y = true → Z = true) ∧ (X = true → Q = false) ∧ (!X && !Q) = M from ⟨t2, t3, hM⟩)
  clear t1 t2 t3 hM
  go_enter Tryd.func8, Tryd.ntmps8
  go_upto_region 1 with (fail)
  go_cut [21] (fun v wx => v = .bool false ∧ Box3 w k na sa k nb sb k nc sc wx)
  case first =>
    go_wp2_with (first | ((with_reducible refine (anchor_any _).mono ?_); intro e w1 hr; obtain ⟨rfl, p, rfl⟩ := hr.out; clear hr))
    go_meet
    exact ⟨rfl, ⟨by simp [go_sem], by simp [go_sem], by simp [go_sem], by simp [go_sem]⟩, ⟨by simp [go_sem], by simp [go_sem], by simp [go_sem], by simp [go_sem]⟩, ⟨by simp [go_sem], by simp [go_sem], by simp [go_sem], by simp [go_sem]⟩, by repeat' (first | (with_reducible exact Below.refl _ _) | (with_reducible assumption) | (with_reducible refine Below.alloc ?_ ?_ _) | (with_reducible refine Below.drew ?_) | (with_reducible refine belowN ?_ _) | (with_reducible refine Below.setCell ?_ ?_ _) | (with_reducible refine belowG ?_ ?_) | (with_reducible exact Nat.le_refl _) | (with_reducible refine le_sizeG ?_) | (with_reducible refine le_sizeA ?_) | (with_reducible refine le_sizeC ?_) | (with_reducible refine le_sizeD ?_) | (with_reducible refine le_sizeN ?_) | go_size | (simp [go_sem]; done))⟩
  case rest =>
    obtain ⟨rfl, hx⟩ := hcut
    go_upto_region 3 with (fail)
    go_cut [56] (fun v wx => v = .bool false ∧ Box3 w k na sa k nb sb k nc sc wx)
    case first =>
      have hx' := hx
      obtain ⟨⟨a0, a1, a2, a3⟩, ⟨b0, b1, b2, b3⟩, ⟨c0, c1, c2, c3⟩, hbw⟩ := hx'
      go_wp2_with (first | ((with_reducible refine (ref_any _ _ _ _).mono ?_); intro e w1 hr; obtain ⟨rfl, p, rfl⟩ := hr.out; clear hr) | ((with_reducible refine ((ha.out _).out).mono ?_); intro e w1 hr; obtain ⟨rfl, p, rfl⟩ := hr.out; clear hr) | ((with_reducible refine ((hb.out _).out).mono ?_); intro e w1 hr; obtain ⟨rfl, p, rfl⟩ := hr.out; clear hr) | ((with_reducible refine ((hc.out _).out).mono ?_); intro e w1 hr; obtain ⟨rfl, p, rfl⟩ := hr.out; clear hr))
      go_meet
      exact ⟨rfl, box3_keep hx (by repeat' (first | (with_reducible exact Below.refl _ _) | (with_reducible assumption) | (with_reducible refine Below.alloc ?_ ?_ _) | (with_reducible refine Below.drew ?_) | (with_reducible refine belowN ?_ _) | (with_reducible refine Below.setCell ?_ ?_ _) | (with_reducible refine belowG ?_ ?_) | (with_reducible exact Nat.le_refl _) | (with_reducible refine le_sizeG ?_) | (with_reducible refine le_sizeA ?_) | (with_reducible refine le_sizeC ?_) | (with_reducible refine le_sizeD ?_) | (with_reducible refine le_sizeN ?_) | go_size | (simp [go_sem]; done)))⟩
    case rest =>
      clear hx
      obtain ⟨rfl, hx⟩ := hcut
      go_upto_region 5 with (fail)
      go_cut [7, 8] (fun v1 v2 wx => ∃ g : Nat, v1 = .pointer (some ⟨g, 0, none⟩) ∧ v2 = .int .i64 0 ∧ C3 wx g 2 (bI X) ⟨#[]⟩ ∧ Box3 w k na sa k nb sb k nc sc wx)
      case first =>
        rename World => wq
        have hx' := hx
        obtain ⟨⟨a0, a1, a2, a3⟩, ⟨b0, b1, b2, b3⟩, ⟨c0, c1, c2, c3⟩, hbw⟩ := hx'
        go_wp2_with ((with_reducible refine ((x.out _ _ (by simp [go_sem]) (by simp [go_sem]) (by simp [go_sem]) (by simp [go_sem])).out).mono ?_); intro e w1 hr; obtain ⟨rfl, p, rfl⟩ := hr.out; clear hr; unfold trV)
        go_meet
        exact ⟨_, rfl, rfl, ⟨by simp [go_sem], by simp [go_sem], by simp [go_sem], by simp [go_sem]⟩, box3_keep hx (by repeat' (first | (with_reducible exact Below.refl _ _) | (with_reducible assumption) | (with_reducible refine Below.alloc ?_ ?_ _) | (with_reducible refine Below.drew ?_) | (with_reducible refine belowN ?_ _) | (with_reducible refine Below.setCell ?_ ?_ _) | (with_reducible refine belowG ?_ ?_) | (with_reducible exact Nat.le_refl _) | (with_reducible refine le_sizeG ?_) | (with_reducible refine le_sizeA ?_) | (with_reducible refine le_sizeC ?_) | (with_reducible refine le_sizeD ?_) | (with_reducible refine le_sizeN ?_) | go_size | (simp [go_sem]; done)))⟩
      case rest =>
        clear hx
        obtain ⟨gx, rfl, rfl, hgx, hx⟩ := hcut
        go_upto_region 6 with (fail)
        go_cut [9, 10] (fun v1 v2 wx => ∃ g : Nat, v1 = .pointer (some ⟨g, 0, none⟩) ∧ v2 = .int .i64 0 ∧ C3 wx g 2 (bI Y) ⟨#[]⟩ ∧ C3 wx gx 2 (bI X) ⟨#[]⟩ ∧ Box3 w k na sa k nb sb k nc sc wx)
        case first =>
          rename World => wq
          have hx' := hx
          obtain ⟨⟨a0, a1, a2, a3⟩, ⟨b0, b1, b2, b3⟩, ⟨c0, c1, c2, c3⟩, hbw⟩ := hx'
          go_wp2_with ((with_reducible refine ((y.out _ _ (by simp [go_sem]) (by simp [go_sem]) (by simp [go_sem]) (by simp [go_sem])).out).mono ?_); intro e w1 hr; obtain ⟨rfl, p, rfl⟩ := hr.out; clear hr; unfold trV)
          go_meet
          exact ⟨_, rfl, rfl, ⟨by simp [go_sem], by simp [go_sem], by simp [go_sem], by simp [go_sem]⟩, c3_keep hgx (by repeat' (first | (with_reducible exact Below.refl _ _) | (with_reducible assumption) | (with_reducible refine Below.alloc ?_ ?_ _) | (with_reducible refine Below.drew ?_) | (with_reducible refine belowN ?_ _) | (with_reducible refine Below.setCell ?_ ?_ _) | (with_reducible refine belowG ?_ ?_) | (with_reducible exact Nat.le_refl _) | (with_reducible refine le_sizeG ?_) | (with_reducible refine le_sizeA ?_) | (with_reducible refine le_sizeC ?_) | (with_reducible refine le_sizeD ?_) | (with_reducible refine le_sizeN ?_) | go_size | (simp [go_sem]; done))), box3_keep hx (by repeat' (first | (with_reducible exact Below.refl _ _) | (with_reducible assumption) | (with_reducible refine Below.alloc ?_ ?_ _) | (with_reducible refine Below.drew ?_) | (with_reducible refine belowN ?_ _) | (with_reducible refine Below.setCell ?_ ?_ _) | (with_reducible refine belowG ?_ ?_) | (with_reducible exact Nat.le_refl _) | (with_reducible refine le_sizeG ?_) | (with_reducible refine le_sizeA ?_) | (with_reducible refine le_sizeC ?_) | (with_reducible refine le_sizeD ?_) | (with_reducible refine le_sizeN ?_) | go_size | (simp [go_sem]; done)))⟩
        case rest =>
          clear hx hgx
          obtain ⟨gy, rfl, rfl, hgy, hgx, hx⟩ := hcut
          go_upto_region 7 with (fail)
          go_cut [11, 12] (fun v1 v2 wx => ∃ g : Nat, v1 = .pointer (some ⟨g, 0, none⟩) ∧ v2 = .int .i64 0 ∧ C3 wx g 2 (bI Z) ⟨#[]⟩ ∧ C3 wx gy 2 (bI Y) ⟨#[]⟩ ∧ C3 wx gx 2 (bI X) ⟨#[]⟩ ∧ Box3 w k na sa k nb sb k nc sc wx)
          case first =>
            rename World => wq
            have hx' := hx
            obtain ⟨⟨a0, a1, a2, a3⟩, ⟨b0, b1, b2, b3⟩, ⟨c0, c1, c2, c3⟩, hbw⟩ := hx'
            go_wp2_with ((with_reducible refine ((z.out _ _ (by simp [go_sem]) (by simp [go_sem]) (by simp [go_sem]) (by simp [go_sem])).out).mono ?_); intro e w1 hr; obtain ⟨rfl, p, rfl⟩ := hr.out; clear hr; unfold trV)
            go_meet
            exact ⟨_, rfl, rfl, ⟨by simp [go_sem], by simp [go_sem], by simp [go_sem], by simp [go_sem]⟩, c3_keep hgy (by repeat' (first | (with_reducible exact Below.refl _ _) | (with_reducible assumption) | (with_reducible refine Below.alloc ?_ ?_ _) | (with_reducible refine Below.drew ?_) | (with_reducible refine belowN ?_ _) | (with_reducible refine Below.setCell ?_ ?_ _) | (with_reducible refine belowG ?_ ?_) | (with_reducible exact Nat.le_refl _) | (with_reducible refine le_sizeG ?_) | (with_reducible refine le_sizeA ?_) | (with_reducible refine le_sizeC ?_) | (with_reducible refine le_sizeD ?_) | (with_reducible refine le_sizeN ?_) | go_size | (simp [go_sem]; done))), c3_keep hgx (by repeat' (first | (with_reducible exact Below.refl _ _) | (with_reducible assumption) | (with_reducible refine Below.alloc ?_ ?_ _) | (with_reducible refine Below.drew ?_) | (with_reducible refine belowN ?_ _) | (with_reducible refine Below.setCell ?_ ?_ _) | (with_reducible refine belowG ?_ ?_) | (with_reducible exact Nat.le_refl _) | (with_reducible refine le_sizeG ?_) | (with_reducible refine le_sizeA ?_) | (with_reducible refine le_sizeC ?_) | (with_reducible refine le_sizeD ?_) | (with_reducible refine le_sizeN ?_) | go_size | (simp [go_sem]; done))), box3_keep hx (by repeat' (first | (with_reducible exact Below.refl _ _) | (with_reducible assumption) | (with_reducible refine Below.alloc ?_ ?_ _) | (with_reducible refine Below.drew ?_) | (with_reducible refine belowN ?_ _) | (with_reducible refine Below.setCell ?_ ?_ _) | (with_reducible refine belowG ?_ ?_) | (with_reducible exact Nat.le_refl _) | (with_reducible refine le_sizeG ?_) | (with_reducible refine le_sizeA ?_) | (with_reducible refine le_sizeC ?_) | (with_reducible refine le_sizeD ?_) | (with_reducible refine le_sizeN ?_) | go_size | (simp [go_sem]; done)))⟩
          case rest =>
            clear hx hgy hgx
            obtain ⟨gz, rfl, rfl, hgz, hgy, hgx, hx⟩ := hcut
            go_upto_region 8 with (fail)
            go_cut [13, 14] (fun v1 v2 wx => ∃ g : Nat, v1 = .pointer (some ⟨g, 0, none⟩) ∧ v2 = .int .i64 0 ∧ C3 wx g 2 (bI M) ⟨#[]⟩ ∧ C3 wx gz 2 (bI Z) ⟨#[]⟩ ∧ C3 wx gy 2 (bI Y) ⟨#[]⟩ ∧ C3 wx gx 2 (bI X) ⟨#[]⟩ ∧ Box3 w k na sa k nb sb k nc sc wx)
            case first =>
              rename World => wq
              have hx' := hx
              obtain ⟨⟨a0, a1, a2, a3⟩, ⟨b0, b1, b2, b3⟩, ⟨c0, c1, c2, c3⟩, hbw⟩ := hx'
              go_wp2_with ((with_reducible refine ((m.out _ _ (by simp [go_sem]) (by simp [go_sem]) (by simp [go_sem]) (by simp [go_sem])).out).mono ?_); intro e w1 hr; obtain ⟨rfl, p, rfl⟩ := hr.out; clear hr; unfold trV)
              go_meet
              exact ⟨_, rfl, rfl, ⟨by simp [go_sem], by simp [go_sem], by simp [go_sem], by simp [go_sem]⟩, c3_keep hgz (by repeat' (first | (with_reducible exact Below.refl _ _) | (with_reducible assumption) | (with_reducible refine Below.alloc ?_ ?_ _) | (with_reducible refine Below.drew ?_) | (with_reducible refine belowN ?_ _) | (with_reducible refine Below.setCell ?_ ?_ _) | (with_reducible refine belowG ?_ ?_) | (with_reducible exact Nat.le_refl _) | (with_reducible refine le_sizeG ?_) | (with_reducible refine le_sizeA ?_) | (with_reducible refine le_sizeC ?_) | (with_reducible refine le_sizeD ?_) | (with_reducible refine le_sizeN ?_) | go_size | (simp [go_sem]; done))), c3_keep hgy (by repeat' (first | (with_reducible exact Below.refl _ _) | (with_reducible assumption) | (with_reducible refine Below.alloc ?_ ?_ _) | (with_reducible refine Below.drew ?_) | (with_reducible refine belowN ?_ _) | (with_reducible refine Below.setCell ?_ ?_ _) | (with_reducible refine belowG ?_ ?_) | (with_reducible exact Nat.le_refl _) | (with_reducible refine le_sizeG ?_) | (with_reducible refine le_sizeA ?_) | (with_reducible refine le_sizeC ?_) | (with_reducible refine le_sizeD ?_) | (with_reducible refine le_sizeN ?_) | go_size | (simp [go_sem]; done))), c3_keep hgx (by repeat' (first | (with_reducible exact Below.refl _ _) | (with_reducible assumption) | (with_reducible refine Below.alloc ?_ ?_ _) | (with_reducible refine Below.drew ?_) | (with_reducible refine belowN ?_ _) | (with_reducible refine Below.setCell ?_ ?_ _) | (with_reducible refine belowG ?_ ?_) | (with_reducible exact Nat.le_refl _) | (with_reducible refine le_sizeG ?_) | (with_reducible refine le_sizeA ?_) | (with_reducible refine le_sizeC ?_) | (with_reducible refine le_sizeD ?_) | (with_reducible refine le_sizeN ?_) | go_size | (simp [go_sem]; done))), box3_keep hx (by repeat' (first | (with_reducible exact Below.refl _ _) | (with_reducible assumption) | (with_reducible refine Below.alloc ?_ ?_ _) | (with_reducible refine Below.drew ?_) | (with_reducible refine belowN ?_ _) | (with_reducible refine Below.setCell ?_ ?_ _) | (with_reducible refine belowG ?_ ?_) | (with_reducible exact Nat.le_refl _) | (with_reducible refine le_sizeG ?_) | (with_reducible refine le_sizeA ?_) | (with_reducible refine le_sizeC ?_) | (with_reducible refine le_sizeD ?_) | (with_reducible refine le_sizeN ?_) | go_size | (simp [go_sem]; done)))⟩
            case rest =>
              clear hx hgz hgy hgx
              obtain ⟨gm, rfl, rfl, hgm, hgz, hgy, hgx, hx⟩ := hcut
              go_upto_region 9 with (fail)
              go_cut [15, 16] (fun v1 v2 wx => ∃ g : Nat, v1 = .pointer (some ⟨g, 0, none⟩) ∧ v2 = .int .i64 0 ∧ C3 wx g 2 (bI Q) ⟨#[]⟩ ∧ C3 wx gm 2 (bI M) ⟨#[]⟩ ∧ C3 wx gz 2 (bI Z) ⟨#[]⟩ ∧ C3 wx gy 2 (bI Y) ⟨#[]⟩ ∧ C3 wx gx 2 (bI X) ⟨#[]⟩ ∧ Box3 w k na sa k nb sb k nc sc wx)
              case first =>
                rename World => wq
                have hx' := hx
                obtain ⟨⟨a0, a1, a2, a3⟩, ⟨b0, b1, b2, b3⟩, ⟨c0, c1, c2, c3⟩, hbw⟩ := hx'
                go_wp2_with ((with_reducible refine ((q.out _ _ (by simp [go_sem]) (by simp [go_sem]) (by simp [go_sem]) (by simp [go_sem])).out).mono ?_); intro e w1 hr; obtain ⟨rfl, p, rfl⟩ := hr.out; clear hr; unfold trV)
                go_meet
                exact ⟨_, rfl, rfl, ⟨by simp [go_sem], by simp [go_sem], by simp [go_sem], by simp [go_sem]⟩, c3_keep hgm (by repeat' (first | (with_reducible exact Below.refl _ _) | (with_reducible assumption) | (with_reducible refine Below.alloc ?_ ?_ _) | (with_reducible refine Below.drew ?_) | (with_reducible refine belowN ?_ _) | (with_reducible refine Below.setCell ?_ ?_ _) | (with_reducible refine belowG ?_ ?_) | (with_reducible exact Nat.le_refl _) | (with_reducible refine le_sizeG ?_) | (with_reducible refine le_sizeA ?_) | (with_reducible refine le_sizeC ?_) | (with_reducible refine le_sizeD ?_) | (with_reducible refine le_sizeN ?_) | go_size | (simp [go_sem]; done))), c3_keep hgz (by repeat' (first | (with_reducible exact Below.refl _ _) | (with_reducible assumption) | (with_reducible refine Below.alloc ?_ ?_ _) | (with_reducible refine Below.drew ?_) | (with_reducible refine belowN ?_ _) | (with_reducible refine Below.setCell ?_ ?_ _) | (with_reducible refine belowG ?_ ?_) | (with_reducible exact Nat.le_refl _) | (with_reducible refine le_sizeG ?_) | (with_reducible refine le_sizeA ?_) | (with_reducible refine le_sizeC ?_) | (with_reducible refine le_sizeD ?_) | (with_reducible refine le_sizeN ?_) | go_size | (simp [go_sem]; done))), c3_keep hgy (by repeat' (first | (with_reducible exact Below.refl _ _) | (with_reducible assumption) | (with_reducible refine Below.alloc ?_ ?_ _) | (with_reducible refine Below.drew ?_) | (with_reducible refine belowN ?_ _) | (with_reducible refine Below.setCell ?_ ?_ _) | (with_reducible refine belowG ?_ ?_) | (with_reducible exact Nat.le_refl _) | (with_reducible refine le_sizeG ?_) | (with_reducible refine le_sizeA ?_) | (with_reducible refine le_sizeC ?_) | (with_reducible refine le_sizeD ?_) | (with_reducible refine le_sizeN ?_) | go_size | (simp [go_sem]; done))), c3_keep hgx (by repeat' (first | (with_reducible exact Below.refl _ _) | (with_reducible assumption) | (with_reducible refine Below.alloc ?_ ?_ _) | (with_reducible refine Below.drew ?_) | (with_reducible refine belowN ?_ _) | (with_reducible refine Below.setCell ?_ ?_ _) | (with_reducible refine belowG ?_ ?_) | (with_reducible exact Nat.le_refl _) | (with_reducible refine le_sizeG ?_) | (with_reducible refine le_sizeA ?_) | (with_reducible refine le_sizeC ?_) | (with_reducible refine le_sizeD ?_) | (with_reducible refine le_sizeN ?_) | go_size | (simp [go_sem]; done))), box3_keep hx (by repeat' (first | (with_reducible exact Below.refl _ _) | (with_reducible assumption) | (with_reducible refine Below.alloc ?_ ?_ _) | (with_reducible refine Below.drew ?_) | (with_reducible refine belowN ?_ _) | (with_reducible refine Below.setCell ?_ ?_ _) | (with_reducible refine belowG ?_ ?_) | (with_reducible exact Nat.le_refl _) | (with_reducible refine le_sizeG ?_) | (with_reducible refine le_sizeA ?_) | (with_reducible refine le_sizeC ?_) | (with_reducible refine le_sizeD ?_) | (with_reducible refine le_sizeN ?_) | go_size | (simp [go_sem]; done)))⟩
              case rest =>
                clear hx hgm hgz hgy hgx
                obtain ⟨gq, rfl, rfl, hgq, hgm, hgz, hgy, hgx, hx⟩ := hcut
                obtain ⟨t2, t3, tM⟩ := T.out
                clear T x y z m q ha hb hc
                have y0 := Lib.hid (show yesB 2 0 = false by decide)
                have y1 := Lib.hid (show yesB 2 1 = true by decide)
                have hbw := hx.below
                have hz := hbw.size
                clear hx
                subst tM
                cases X <;> cases Y <;> cases Z <;> cases Q
                all_goals first | (exact absurd (t2 rfl rfl) (by decide)) | (exact absurd (t3 rfl) (by decide)) | skip
                all_goals
                  clear t2 t3
                  obtain ⟨x0, x1, x2, x3⟩ := hgx
                  obtain ⟨y0', y1', y2, y3⟩ := hgy
                  obtain ⟨z0, z1, z2, z3⟩ := hgz
                  obtain ⟨m0, m1, m2, m3⟩ := hgm
                  obtain ⟨q0, q1, q2, q3⟩ := hgq
                  simp only [bI, Bool.not_true, Bool.not_false, Bool.and_true, Bool.and_false, Bool.and_self, if_true, if_false, Bool.false_eq_true] at x2 y2 z2 m2 q2
                  rename World => wq
                  have i1 : InW gx wq := ⟨x0⟩
                  have i2 : InW gy wq := ⟨y0'⟩
                  have i3 : InW gz wq := ⟨z0⟩
                  have i4 : InW gm wq := ⟨m0⟩
                  have i5 : InW gq wq := ⟨q0⟩
                  clear x0 y0' z0 m0 q0
                  go_wp2
                  refine wp_loop_rounds 4 ?_
                  repeat any_goals (rw [rounds_succ]; go_wp2_with (first | ((with_reducible refine (yes_any 2 0 _ _).mono ?_); intro e w1 hr; obtain ⟨rfl, p, rfl⟩ := hr.out; clear hr; rw [y0.out]) | ((with_reducible refine (yes_any 2 1 _ _).mono ?_); intro e w1 hr; obtain ⟨rfl, p, rfl⟩ := hr.out; clear hr; rw [y1.out])))
                  go_returns
                  exact ⟨rfl, by repeat' (first | (with_reducible exact Below.refl _ _) | (with_reducible assumption) | (with_reducible refine Below.alloc ?_ ?_ _) | (with_reducible refine Below.drew ?_) | (with_reducible refine belowN ?_ _) | (with_reducible refine Below.setCell ?_ ?_ _) | (with_reducible refine belowG ?_ ?_) | (with_reducible exact Nat.le_refl _) | (with_reducible refine le_sizeG ?_) | (with_reducible refine le_sizeA ?_) | (with_reducible refine le_sizeC ?_) | (with_reducible refine le_sizeD ?_) | (with_reducible refine le_sizeN ?_) | go_size | (simp [go_sem]; done))⟩
theorem orders_walk (ka na : Int) (sa : ByteArray) (kb nb : Int) (sb : ByteArray) (kc nc : Int) (sc : ByteArray) (Ia : I64 na) (Ib : I64 nb) (Ic : I64 nc) (za : sa.size ≤ maxLen) (zb : sb.size ≤ maxLen) (zc : sc.size ≤ maxLen) (w : World) :
    Calls Tryd.prog 8 #[.agg #[.int .i64 ka, .int .i64 na, .string sa], .agg #[.int .i64 kb, .int .i64 nb, .string sb], .agg #[.int .i64 kc, .int .i64 nc, .string sc]] w (Ret (.bool true) w) := by
  by_cases h : rightB ka na sa = true ∧ rightB kb nb sb = true ∧ rightB kc nc sc = true ∧ ka = kb ∧ kb = kc ∧ ka ≠ 2
  · obtain ⟨h1, h2, h3, rfl, rfl, h4⟩ := h
    exact orders_yes ka na sa nb sb nc sc Ia Ib Ic za zb zc h1 h2 h3 h4 w
  · exact orders_no ka na sa kb nb sb kc nc sc za zb zc h w
end Go.Proofs.YtnpjphnmcpglkaaDoor
