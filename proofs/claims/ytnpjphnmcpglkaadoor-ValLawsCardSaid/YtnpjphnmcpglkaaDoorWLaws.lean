import Derived.Test.YtnpjphnmcpglkaaDoorR3
import Derived.Test.YtnpjphnmcpglkaaDoorR4
import Derived.Test.YtnpjphnmcpglkaaDoorWRk0
import Derived.WalkKit
import Derived.ProofKit
import Derived.OpenShut
import Derived.Handy
import Derived.BigQuiet
import Derived.Lib.Hide
import Derived.Deep.DeepCutAuto
import Derived.Deep.RegionHeld3
import Derived.Lib.Strings
import Derived.WalkLawsBesides
namespace Go.Proofs.YtnpjphnmcpglkaaDoor
open Go.RowKit
set_option maxRecDepth 100000 in
set_option maxHeartbeats 2000000 in
theorem laws_no (ka na : Int) (sa : ByteArray) (kb nb : Int) (sb : ByteArray) (za : sa.size ≤ maxLen) (zb : sb.size ≤ maxLen) (h : ¬ (rightB ka na sa = true ∧ rightB kb nb sb = true ∧ ka = kb)) (w : World) :
    Calls Tryd.prog 7 #[.agg #[.int .i64 ka, .int .i64 na, .string sa], .agg #[.int .i64 kb, .int .i64 nb, .string sb]] w (Ret (.bool true) w) := by
  have ha := fun wx => Lib.hid (rright_any ka na sa wx za)
  have ha := Lib.hid ha
  have hb := fun wx => Lib.hid (rright_any kb nb sb wx zb)
  have hb := Lib.hid hb
  clear za zb
  rcases h1 : rightB ka na sa <;> rcases h2 : rightB kb nb sb
  all_goals
    rw [h1] at ha
    rw [h2] at hb
  case' true.true =>
    have k1 : ka ≠ kb := fun e => h ⟨h1, h2, e⟩
    have k1' : (ka == kb) = false := by simpa using k1
    have k1n : (ka != kb) = true := by rw [bne, k1']; rfl
    clear k1
  all_goals
    clear h1 h2 h
    go_enter Tryd.func7, Tryd.ntmps7
    go_wp2_with (first | ((with_reducible refine (anchor_any _).mono ?_); intro e w1 hr; obtain ⟨rfl, p, rfl⟩ := hr.out; clear hr) | ((with_reducible refine (ref_any _ _ _ _).mono ?_); intro e w1 hr; obtain ⟨rfl, p, rfl⟩ := hr.out; clear hr) | ((with_reducible refine ((ha.out _).out).mono ?_); intro e w1 hr; obtain ⟨rfl, p, rfl⟩ := hr.out; clear hr) | ((with_reducible refine ((hb.out _).out).mono ?_); intro e w1 hr; obtain ⟨rfl, p, rfl⟩ := hr.out; clear hr))
    go_returns
    exact ⟨rfl, by repeat' (first | (with_reducible exact Below.refl _ _) | (with_reducible assumption) | (with_reducible refine Below.alloc ?_ ?_ _) | (with_reducible refine Below.drew ?_) | (with_reducible refine belowN ?_ _) | (with_reducible refine Below.setCell ?_ ?_ _) | (with_reducible refine belowG ?_ ?_) | (with_reducible exact Nat.le_refl _) | (with_reducible refine le_sizeG ?_) | (with_reducible refine le_sizeA ?_) | (with_reducible refine le_sizeC ?_) | (with_reducible refine le_sizeD ?_) | (with_reducible refine le_sizeN ?_) | go_size | (simp [go_sem]; done))⟩
set_option maxRecDepth 100000 in
set_option maxHeartbeats 16000000 in
theorem laws_yes (k na : Int) (sa : ByteArray) (nb : Int) (sb : ByteArray) (rx rp rs rd rr rm : Rk) (za : sa.size ≤ maxLen) (zb : sb.size ≤ maxLen) (ra : rightB k na sa = true) (rb : rightB k nb sb = true)
    (X : Hid (∀ g wx, g < wx.heap.size → wx.cell? ⟨g, 0, none⟩ = some (.int .i64 k) → wx.cell? ⟨g, 1, none⟩ = some (.int .i64 nb) → wx.cell? ⟨g, 2, none⟩ = some (.string sb) → Hid (Calls Tryd.prog 12 #[.int .i64 8, .agg #[.int .i64 k, .int .i64 na, .string sa], .slice (some ⟨g, 0, none⟩) 1 1] wx (Ret (rkV rx) wx))))
    (Y : Hid (∀ g wx, g < wx.heap.size → wx.cell? ⟨g, 0, none⟩ = some (.int .i64 k) → wx.cell? ⟨g, 1, none⟩ = some (.int .i64 na) → wx.cell? ⟨g, 2, none⟩ = some (.string sa) → Hid (Calls Tryd.prog 12 #[.int .i64 10, .agg #[.int .i64 k, .int .i64 nb, .string sb], .slice (some ⟨g, 0, none⟩) 1 1] wx (Ret (rkV rx) wx))))
    (Z : Hid (∀ g wx, g < wx.heap.size → wx.cell? ⟨g, 0, none⟩ = some (.int .i64 k) → wx.cell? ⟨g, 1, none⟩ = some (.int .i64 nb) → wx.cell? ⟨g, 2, none⟩ = some (.string sb) → Hid (Calls Tryd.prog 12 #[.int .i64 12, .agg #[.int .i64 k, .int .i64 na, .string sa], .slice (some ⟨g, 0, none⟩) 1 1] wx (Ret (rkV (trR (eqB na sa nb sb))) wx))))
    (N : k = 1 → Hid (Hid (∀ g wx, g < wx.heap.size → wx.cell? ⟨g, 0, none⟩ = some (.int .i64 k) → wx.cell? ⟨g, 1, none⟩ = some (.int .i64 nb) → wx.cell? ⟨g, 2, none⟩ = some (.string sb) → Hid (Calls Tryd.prog 12 #[.int .i64 3, .agg #[.int .i64 k, .int .i64 na, .string sa], .slice (some ⟨g, 0, none⟩) 1 1] wx (Ret (rkV rp) wx))) ∧ Hid (∀ g wx, g < wx.heap.size → wx.cell? ⟨g, 0, none⟩ = some (.int .i64 k) → wx.cell? ⟨g, 1, none⟩ = some (.int .i64 na) → wx.cell? ⟨g, 2, none⟩ = some (.string sa) → Hid (Calls Tryd.prog 12 #[.int .i64 3, .agg #[.int .i64 k, .int .i64 nb, .string sb], .slice (some ⟨g, 0, none⟩) 1 1] wx (Ret (rkV rp) wx))) ∧ Hid (∀ g wx, g < wx.heap.size → wx.cell? ⟨g, 0, none⟩ = some (.int .i64 k) → wx.cell? ⟨g, 1, none⟩ = some (.int .i64 nb) → wx.cell? ⟨g, 2, none⟩ = some (.string sb) → Hid (Calls Tryd.prog 12 #[.int .i64 6, .agg #[.int .i64 k, .int .i64 na, .string sa], .slice (some ⟨g, 0, none⟩) 1 1] wx (Ret (rkV rs) wx))) ∧ Hid (∀ g wx, g < wx.heap.size → wx.cell? ⟨g, 0, none⟩ = some (.int .i64 k) → wx.cell? ⟨g, 1, none⟩ = some (.int .i64 na) → wx.cell? ⟨g, 2, none⟩ = some (.string sa) → Hid (Calls Tryd.prog 12 #[.int .i64 6, .agg #[.int .i64 k, .int .i64 nb, .string sb], .slice (some ⟨g, 0, none⟩) 1 1] wx (Ret (rkV rs) wx))) ∧ Hid (∀ g wx, g < wx.heap.size → wx.cell? ⟨g, 0, none⟩ = some (.int .i64 k) → wx.cell? ⟨g, 1, none⟩ = some (.int .i64 nb) → wx.cell? ⟨g, 2, none⟩ = some (.string sb) → Hid (Calls Tryd.prog 12 #[.int .i64 4, .agg #[.int .i64 k, .int .i64 na, .string sa], .slice (some ⟨g, 0, none⟩) 1 1] wx (Ret (rkV rd) wx))) ∧ Hid (∀ g wx, g < wx.heap.size → wx.cell? ⟨g, 0, none⟩ = some (.int .i64 k) → wx.cell? ⟨g, 1, none⟩ = some (.int .i64 nb) → wx.cell? ⟨g, 2, none⟩ = some (.string sb) → Hid (Calls Tryd.prog 12 #[.int .i64 5, .agg #[.int .i64 k, .int .i64 na, .string sa], .slice (some ⟨g, 0, none⟩) 1 1] wx (Ret (rkV rr) wx))) ∧
      ((nb = 0 ∧ rd = errR 22 ∧ rr = errR 22) ∨ (nb = -1 ∧ rd = errR 21 ∧ rr = ⟨1, 0, ⟨#[]⟩, 0⟩) ∨ ((nb == 0) = false ∧ rd.e = 0 ∧ rr.e = 0 ∧
        Hid (∀ g wx, g < wx.heap.size → wx.cell? ⟨g, 0, none⟩ = some (.int .i64 k) → wx.cell? ⟨g, 1, none⟩ = some (.int .i64 nb) → wx.cell? ⟨g, 2, none⟩ = some (.string sb) → Hid (Calls Tryd.prog 12 #[.int .i64 3, .agg #[.int .i64 rd.k, .int .i64 rd.n, .string rd.s], .slice (some ⟨g, 0, none⟩) 1 1] wx (Ret (rkV rm) wx))) ∧ rm.e = 0 ∧
        Hid (∀ g wx, g < wx.heap.size → wx.cell? ⟨g, 0, none⟩ = some (.int .i64 rr.k) → wx.cell? ⟨g, 1, none⟩ = some (.int .i64 rr.n) → wx.cell? ⟨g, 2, none⟩ = some (.string rr.s) → Hid (Calls Tryd.prog 12 #[.int .i64 6, .agg #[.int .i64 rm.k, .int .i64 rm.n, .string rm.s], .slice (some ⟨g, 0, none⟩) 1 1] wx (Ret (rkV ⟨k, na, sa, 0⟩) wx)))))))
    (w : World) : Calls Tryd.prog 7 #[.agg #[.int .i64 k, .int .i64 na, .string sa], .agg #[.int .i64 k, .int .i64 nb, .string sb]] w (Ret (.bool true) w) := by
  have ha := fun wx => Lib.hid (rright_any k na sa wx za)
  have ha := Lib.hid ha
  have hb := fun wx => Lib.hid (rright_any k nb sb wx zb)
  have hb := Lib.hid hb
  rw [ra] at ha
  rw [rb] at hb
  clear za zb ra rb
  have hd : Hid (eqB na sa nb sb = (na == nb && sa.toList == sb.toList)) := rfl
  have N := Lib.hid N
  generalize eqB na sa nb sb = q at *
  go_enter Tryd.func7, Tryd.ntmps7
  go_upto_region 5 with (first | ((with_reducible refine (anchor_any _).mono ?_); intro e w1 hr; obtain ⟨rfl, p, rfl⟩ := hr.out; clear hr) | ((with_reducible refine (ref_any _ _ _ _).mono ?_); intro e w1 hr; obtain ⟨rfl, p, rfl⟩ := hr.out; clear hr) | ((with_reducible refine ((ha.out _).out).mono ?_); intro e w1 hr; obtain ⟨rfl, p, rfl⟩ := hr.out; clear hr) | ((with_reducible refine ((hb.out _).out).mono ?_); intro e w1 hr; obtain ⟨rfl, p, rfl⟩ := hr.out; clear hr))
  go_cut [5, 6] (fun v1 v2 wx => ∃ g : Nat, v1 = .pointer (some ⟨g, 0, none⟩) ∧ v2 = .int .i64 rx.e ∧ C3 wx g rx.k rx.n rx.s ∧ Box2 w k na sa k nb sb wx)
  case first =>
    as_aux_lemma =>
    go_wp2_with ((with_reducible refine ((X.out _ _ (by simp [go_sem]) (by simp [go_sem]) (by simp [go_sem]) (by simp [go_sem])).out).mono ?_); intro e w1 hr; obtain ⟨rfl, p, rfl⟩ := hr.out; clear hr; rw [rkV_def])
    go_meet
    exact ⟨_, rfl, rfl, ⟨InW.lt, by simp [go_sem], by simp [go_sem], by simp [go_sem]⟩, ⟨⟨InW.lt, by simp [go_sem], by simp [go_sem], by simp [go_sem]⟩, ⟨InW.lt, by simp [go_sem], by simp [go_sem], by simp [go_sem]⟩, by repeat' (first | (with_reducible exact Below.refl _ _) | (with_reducible assumption) | (with_reducible refine Below.alloc ?_ ?_ _) | (with_reducible refine Below.drew ?_) | (with_reducible refine belowN ?_ _) | (with_reducible refine Below.setCell ?_ ?_ _) | (with_reducible refine belowG ?_ ?_) | (with_reducible exact Nat.le_refl _) | (with_reducible refine le_sizeG ?_) | (with_reducible refine le_sizeA ?_) | (with_reducible refine le_sizeC ?_) | (with_reducible refine le_sizeD ?_) | (with_reducible refine le_sizeN ?_) | go_size | (simp [go_sem]; done))⟩⟩
  case rest =>
    obtain ⟨gx, rfl, rfl, hgx, hx⟩ := hcut
    go_upto_region 6 with (fail)
    go_cut [7, 8] (fun v1 v2 wx => ∃ g : Nat, v1 = .pointer (some ⟨g, 0, none⟩) ∧ v2 = .int .i64 rx.e ∧ C3 wx g rx.k rx.n rx.s ∧ C3 wx gx rx.k rx.n rx.s ∧ Box2 w k na sa k nb sb wx)
    case first =>
      as_aux_lemma =>
      rename World => wq
      have hx' := hx
      obtain ⟨⟨a0, a1, a2, a3⟩, ⟨b0, b1, b2, b3⟩, hbw⟩ := hx'
      have i2 : InW w.heap.size wq := ⟨a0⟩
      have i3 : InW (w.heap.size + 1) wq := ⟨b0⟩
      have hz := hbw.size
      go_wp2_with ((with_reducible refine ((Y.out _ _ (by simp [go_sem]) (by simp [go_sem]) (by simp [go_sem]) (by simp [go_sem])).out).mono ?_); intro e w1 hr; obtain ⟨rfl, p, rfl⟩ := hr.out; clear hr; rw [rkV_def])
      go_meet
      exact ⟨_, rfl, rfl, ⟨InW.lt, by simp [go_sem], by simp [go_sem], by simp [go_sem]⟩, c3_keep hgx (by repeat' (first | (with_reducible exact Below.refl _ _) | (with_reducible assumption) | (with_reducible refine Below.alloc ?_ ?_ _) | (with_reducible refine Below.drew ?_) | (with_reducible refine belowN ?_ _) | (with_reducible refine Below.setCell ?_ ?_ _) | (with_reducible refine belowG ?_ ?_) | (with_reducible exact Nat.le_refl _) | (with_reducible refine le_sizeG ?_) | (with_reducible refine le_sizeA ?_) | (with_reducible refine le_sizeC ?_) | (with_reducible refine le_sizeD ?_) | (with_reducible refine le_sizeN ?_) | go_size | (simp [go_sem]; done))), box2_keep hx (by repeat' (first | (with_reducible exact Below.refl _ _) | (with_reducible assumption) | (with_reducible refine Below.alloc ?_ ?_ _) | (with_reducible refine Below.drew ?_) | (with_reducible refine belowN ?_ _) | (with_reducible refine Below.setCell ?_ ?_ _) | (with_reducible refine belowG ?_ ?_) | (with_reducible exact Nat.le_refl _) | (with_reducible refine le_sizeG ?_) | (with_reducible refine le_sizeA ?_) | (with_reducible refine le_sizeC ?_) | (with_reducible refine le_sizeD ?_) | (with_reducible refine le_sizeN ?_) | go_size | (simp [go_sem]; done)))⟩
    case rest =>
      clear hx hgx
      obtain ⟨gy, rfl, rfl, hgy, hgx, hx⟩ := hcut
      go_upto_region 7 with (fail)
      go_cut [67] (fun v wx => v = .bool false ∧ Box2 w k na sa k nb sb wx)
      case first =>
        as_aux_lemma =>
        have hx' := hx
        obtain ⟨⟨a0, a1, a2, a3⟩, ⟨b0, b1, b2, b3⟩, hbw⟩ := hx'
        obtain ⟨x0, x1, x2, x3⟩ := hgx
        obtain ⟨y0, y1, y2, y3⟩ := hgy
        go_wp2_with fail
        go_meet
        exact ⟨rfl, hx⟩
      case rest =>
        clear hx hgx hgy
        obtain ⟨rfl, hx⟩ := hcut
        go_upto_region 9 with (fail)
        go_cut [9, 10] (fun v1 v2 wx => ∃ g : Nat, v1 = .pointer (some ⟨g, 0, none⟩) ∧ v2 = .int .i64 0 ∧ C3 wx g 2 (bI q) ⟨#[]⟩ ∧ Box2 w k na sa k nb sb wx)
        case first =>
          as_aux_lemma =>
          rename World => wq
          have hx' := hx
          obtain ⟨⟨a0, a1, a2, a3⟩, ⟨b0, b1, b2, b3⟩, hbw⟩ := hx'
          have i2 : InW w.heap.size wq := ⟨a0⟩
          have i3 : InW (w.heap.size + 1) wq := ⟨b0⟩
          have hz := hbw.size
          go_wp2_with ((with_reducible refine ((Z.out _ _ (by simp [go_sem]) (by simp [go_sem]) (by simp [go_sem]) (by simp [go_sem])).out).mono ?_); intro e w1 hr; obtain ⟨rfl, p, rfl⟩ := hr.out; clear hr; rw [rkV_def]; unfold trR)
          go_meet
          exact ⟨_, rfl, rfl, ⟨InW.lt, by simp [go_sem], by simp [go_sem], by simp [go_sem]⟩, box2_keep hx (by repeat' (first | (with_reducible exact Below.refl _ _) | (with_reducible assumption) | (with_reducible refine Below.alloc ?_ ?_ _) | (with_reducible refine Below.drew ?_) | (with_reducible refine belowN ?_ _) | (with_reducible refine Below.setCell ?_ ?_ _) | (with_reducible refine belowG ?_ ?_) | (with_reducible exact Nat.le_refl _) | (with_reducible refine le_sizeG ?_) | (with_reducible refine le_sizeA ?_) | (with_reducible refine le_sizeC ?_) | (with_reducible refine le_sizeD ?_) | (with_reducible refine le_sizeN ?_) | go_size | (simp [go_sem]; done)))⟩
        case rest =>
          clear hx
          obtain ⟨gz, rfl, rfl, hgz, hx⟩ := hcut
          go_upto_region 10 with (fail)
          go_cut [84] (fun v wx => v = .bool false ∧ Box2 w k na sa k nb sb wx)
          case first =>
            as_aux_lemma =>
            rename World => wq
            have hx' := hx
            obtain ⟨⟨a0, a1, a2, a3⟩, ⟨b0, b1, b2, b3⟩, hbw⟩ := hx'
            obtain ⟨z0, z1, z2, z3⟩ := hgz
            have i2 : InW w.heap.size wq := ⟨a0⟩
            have i3 : InW (w.heap.size + 1) wq := ⟨b0⟩
            have i4 : InW gz wq := ⟨z0⟩
            have y0 := Lib.hid (show yesB 2 0 = false by decide)
            have y1 := Lib.hid (show yesB 2 1 = true by decide)
            clear X Y Z N a0 b0 z0
            rcases h1 : (na == nb)
            · have e := hd.out
              rw [h1, Bool.false_and] at e
              subst e
              clear hd
              simp only [bI, Bool.false_eq_true, if_false] at z2
              (refine wp_region_G (by kernel_rfl) (by kernel_rfl) ?_; (repeat (go_big_quiet_step (first | (rw [show (2 : Int) = 2 from rfl]; exact quietG (by have := yes_any 2 0 ⟨#[]⟩; rw [y0.out] at this; exact this _))))); refine wpQuiet_nil ?_; intro _ hw'; obtain ⟨pg, hw''⟩ := hw'; subst hw'')
              go_wp2_with fail
              go_meet
              exact ⟨rfl, box2_keep hx (by repeat' (first | (with_reducible exact Below.refl _ _) | (with_reducible assumption) | (with_reducible refine Below.alloc ?_ ?_ _) | (with_reducible refine Below.drew ?_) | (with_reducible refine belowN ?_ _) | (with_reducible refine Below.setCell ?_ ?_ _) | (with_reducible refine belowG ?_ ?_) | (with_reducible exact Nat.le_refl _) | (with_reducible refine le_sizeG ?_) | (with_reducible refine le_sizeA ?_) | (with_reducible refine le_sizeC ?_) | (with_reducible refine le_sizeD ?_) | (with_reducible refine le_sizeN ?_) | go_size | (simp [go_sem]; done)))⟩
            · obtain rfl : na = nb := by simpa using h1
              have e := hd.out
              rw [h1, Bool.true_and] at e
              clear h1 hd
              rcases h2 : (sa.toList == sb.toList)
              · rw [h2] at e
                subst e
                simp only [bI, Bool.false_eq_true, if_false] at z2
                (refine wp_region_G (by kernel_rfl) (by kernel_rfl) ?_; (repeat (go_big_quiet_step (first | exact quietG (by have := yes_any 2 0 ⟨#[]⟩; rw [y0.out] at this; exact this _)))); refine wpQuiet_nil ?_; intro _ hw'; obtain ⟨pg, hw''⟩ := hw'; subst hw'')
                go_wp2_with fail
                go_meet
                exact ⟨rfl, box2_keep hx (by repeat' (first | (with_reducible exact Below.refl _ _) | (with_reducible assumption) | (with_reducible refine Below.alloc ?_ ?_ _) | (with_reducible refine Below.drew ?_) | (with_reducible refine belowN ?_ _) | (with_reducible refine Below.setCell ?_ ?_ _) | (with_reducible refine belowG ?_ ?_) | (with_reducible exact Nat.le_refl _) | (with_reducible refine le_sizeG ?_) | (with_reducible refine le_sizeA ?_) | (with_reducible refine le_sizeC ?_) | (with_reducible refine le_sizeD ?_) | (with_reducible refine le_sizeN ?_) | go_size | (simp [go_sem]; done)))⟩
              · rw [h2] at e
                subst e
                simp only [bI, if_true] at z2
                (refine wp_region_G (by kernel_rfl) (by kernel_rfl) ?_; (repeat (go_big_quiet_step (first | exact quietG (by have := yes_any 2 1 ⟨#[]⟩; rw [y1.out] at this; exact this _)))); refine wpQuiet_nil ?_; intro _ hw'; obtain ⟨pg, hw''⟩ := hw'; subst hw'')
                go_wp2_with fail
                go_meet
                exact ⟨rfl, box2_keep hx (by repeat' (first | (with_reducible exact Below.refl _ _) | (with_reducible assumption) | (with_reducible refine Below.alloc ?_ ?_ _) | (with_reducible refine Below.drew ?_) | (with_reducible refine belowN ?_ _) | (with_reducible refine Below.setCell ?_ ?_ _) | (with_reducible refine belowG ?_ ?_) | (with_reducible exact Nat.le_refl _) | (with_reducible refine le_sizeG ?_) | (with_reducible refine le_sizeA ?_) | (with_reducible refine le_sizeC ?_) | (with_reducible refine le_sizeD ?_) | (with_reducible refine le_sizeN ?_) | go_size | (simp [go_sem]; done)))⟩
          case rest =>
            clear hx hgz X Y Z hd ha hb
            obtain ⟨rfl, hx⟩ := hcut
            by_cases hk : k = 1
            · have N := (N.out hk).out
              subst hk
              obtain ⟨P, P2, Q, Q2, D, R, N⟩ := N
              have N := Lib.hid N
              have hx'' := hx
              obtain ⟨⟨a0, a1, a2, a3⟩, ⟨b0, b1, b2, b3⟩, hbw⟩ := hx''
              go_upto_region 14 with (fail)
              clear a0 a1 a2 a3 b0 b1 b2 b3 hbw
              go_cut [11, 12] (fun v1 v2 wx => ∃ g : Nat, v1 = .pointer (some ⟨g, 0, none⟩) ∧ v2 = .int .i64 rp.e ∧ C3 wx g rp.k rp.n rp.s ∧ Box2 w 1 na sa 1 nb sb wx)
              case first =>
                as_aux_lemma =>
                rename World => wq
                have hx' := hx
                obtain ⟨⟨a0, a1, a2, a3⟩, ⟨b0, b1, b2, b3⟩, hbw⟩ := hx'
                have i2 : InW w.heap.size wq := ⟨a0⟩
                have i3 : InW (w.heap.size + 1) wq := ⟨b0⟩
                have hz := hbw.size
                go_wp2_with ((with_reducible refine ((P.out _ _ (by simp [go_sem]) (by simp [go_sem]) (by simp [go_sem]) (by simp [go_sem])).out).mono ?_); intro e w1 hr; obtain ⟨rfl, p, rfl⟩ := hr.out; clear hr; rw [rkV_def])
                go_meet
                exact ⟨_, rfl, rfl, ⟨InW.lt, by simp [go_sem], by simp [go_sem], by simp [go_sem]⟩, box2_keep hx (by repeat' (first | (with_reducible exact Below.refl _ _) | (with_reducible assumption) | (with_reducible refine Below.alloc ?_ ?_ _) | (with_reducible refine Below.drew ?_) | (with_reducible refine belowN ?_ _) | (with_reducible refine Below.setCell ?_ ?_ _) | (with_reducible refine belowG ?_ ?_) | (with_reducible exact Nat.le_refl _) | (with_reducible refine le_sizeG ?_) | (with_reducible refine le_sizeA ?_) | (with_reducible refine le_sizeC ?_) | (with_reducible refine le_sizeD ?_) | (with_reducible refine le_sizeN ?_) | go_size | (simp [go_sem]; done)))⟩
              case rest =>
                clear hx
                obtain ⟨gp, rfl, rfl, hgp, hx⟩ := hcut
                go_upto_region 15 with (fail)
                go_cut [13, 14] (fun v1 v2 wx => ∃ g : Nat, v1 = .pointer (some ⟨g, 0, none⟩) ∧ v2 = .int .i64 rp.e ∧ C3 wx g rp.k rp.n rp.s ∧ C3 wx gp rp.k rp.n rp.s ∧ Box2 w 1 na sa 1 nb sb wx)
                case first =>
                  as_aux_lemma =>
                  rename World => wq
                  have hx' := hx
                  obtain ⟨⟨a0, a1, a2, a3⟩, ⟨b0, b1, b2, b3⟩, hbw⟩ := hx'
                  have i2 : InW w.heap.size wq := ⟨a0⟩
                  have i3 : InW (w.heap.size + 1) wq := ⟨b0⟩
                  have hz := hbw.size
                  go_wp2_with ((with_reducible refine ((P2.out _ _ (by simp [go_sem]) (by simp [go_sem]) (by simp [go_sem]) (by simp [go_sem])).out).mono ?_); intro e w1 hr; obtain ⟨rfl, p, rfl⟩ := hr.out; clear hr; rw [rkV_def])
                  go_meet
                  exact ⟨_, rfl, rfl, ⟨InW.lt, by simp [go_sem], by simp [go_sem], by simp [go_sem]⟩, c3_keep hgp (by repeat' (first | (with_reducible exact Below.refl _ _) | (with_reducible assumption) | (with_reducible refine Below.alloc ?_ ?_ _) | (with_reducible refine Below.drew ?_) | (with_reducible refine belowN ?_ _) | (with_reducible refine Below.setCell ?_ ?_ _) | (with_reducible refine belowG ?_ ?_) | (with_reducible exact Nat.le_refl _) | (with_reducible refine le_sizeG ?_) | (with_reducible refine le_sizeA ?_) | (with_reducible refine le_sizeC ?_) | (with_reducible refine le_sizeD ?_) | (with_reducible refine le_sizeN ?_) | go_size | (simp [go_sem]; done))), box2_keep hx (by repeat' (first | (with_reducible exact Below.refl _ _) | (with_reducible assumption) | (with_reducible refine Below.alloc ?_ ?_ _) | (with_reducible refine Below.drew ?_) | (with_reducible refine belowN ?_ _) | (with_reducible refine Below.setCell ?_ ?_ _) | (with_reducible refine belowG ?_ ?_) | (with_reducible exact Nat.le_refl _) | (with_reducible refine le_sizeG ?_) | (with_reducible refine le_sizeA ?_) | (with_reducible refine le_sizeC ?_) | (with_reducible refine le_sizeD ?_) | (with_reducible refine le_sizeN ?_) | go_size | (simp [go_sem]; done)))⟩
                case rest =>
                  clear hx hgp
                  obtain ⟨gp2, rfl, rfl, hgp2, hgp, hx⟩ := hcut
                  go_upto_region 16 with (fail)
                  go_cut [15, 16] (fun v1 v2 wx => ∃ g : Nat, v1 = .pointer (some ⟨g, 0, none⟩) ∧ v2 = .int .i64 rs.e ∧ C3 wx g rs.k rs.n rs.s ∧ C3 wx gp2 rp.k rp.n rp.s ∧ C3 wx gp rp.k rp.n rp.s ∧ Box2 w 1 na sa 1 nb sb wx)
                  case first =>
                    as_aux_lemma =>
                    rename World => wq
                    have hx' := hx
                    obtain ⟨⟨a0, a1, a2, a3⟩, ⟨b0, b1, b2, b3⟩, hbw⟩ := hx'
                    have i2 : InW w.heap.size wq := ⟨a0⟩
                    have i3 : InW (w.heap.size + 1) wq := ⟨b0⟩
                    have hz := hbw.size
                    go_wp2_with ((with_reducible refine ((Q.out _ _ (by simp [go_sem]) (by simp [go_sem]) (by simp [go_sem]) (by simp [go_sem])).out).mono ?_); intro e w1 hr; obtain ⟨rfl, p, rfl⟩ := hr.out; clear hr; rw [rkV_def])
                    go_meet
                    exact ⟨_, rfl, rfl, ⟨InW.lt, by simp [go_sem], by simp [go_sem], by simp [go_sem]⟩, c3_keep hgp2 (by repeat' (first | (with_reducible exact Below.refl _ _) | (with_reducible assumption) | (with_reducible refine Below.alloc ?_ ?_ _) | (with_reducible refine Below.drew ?_) | (with_reducible refine belowN ?_ _) | (with_reducible refine Below.setCell ?_ ?_ _) | (with_reducible refine belowG ?_ ?_) | (with_reducible exact Nat.le_refl _) | (with_reducible refine le_sizeG ?_) | (with_reducible refine le_sizeA ?_) | (with_reducible refine le_sizeC ?_) | (with_reducible refine le_sizeD ?_) | (with_reducible refine le_sizeN ?_) | go_size | (simp [go_sem]; done))), c3_keep hgp (by repeat' (first | (with_reducible exact Below.refl _ _) | (with_reducible assumption) | (with_reducible refine Below.alloc ?_ ?_ _) | (with_reducible refine Below.drew ?_) | (with_reducible refine belowN ?_ _) | (with_reducible refine Below.setCell ?_ ?_ _) | (with_reducible refine belowG ?_ ?_) | (with_reducible exact Nat.le_refl _) | (with_reducible refine le_sizeG ?_) | (with_reducible refine le_sizeA ?_) | (with_reducible refine le_sizeC ?_) | (with_reducible refine le_sizeD ?_) | (with_reducible refine le_sizeN ?_) | go_size | (simp [go_sem]; done))), box2_keep hx (by repeat' (first | (with_reducible exact Below.refl _ _) | (with_reducible assumption) | (with_reducible refine Below.alloc ?_ ?_ _) | (with_reducible refine Below.drew ?_) | (with_reducible refine belowN ?_ _) | (with_reducible refine Below.setCell ?_ ?_ _) | (with_reducible refine belowG ?_ ?_) | (with_reducible exact Nat.le_refl _) | (with_reducible refine le_sizeG ?_) | (with_reducible refine le_sizeA ?_) | (with_reducible refine le_sizeC ?_) | (with_reducible refine le_sizeD ?_) | (with_reducible refine le_sizeN ?_) | go_size | (simp [go_sem]; done)))⟩
                  case rest =>
                    clear hx hgp2 hgp
                    obtain ⟨gs, rfl, rfl, hgs, hgp2, hgp, hx⟩ := hcut
                    go_upto_region 17 with (fail)
                    go_cut [17, 18] (fun v1 v2 wx => ∃ g : Nat, v1 = .pointer (some ⟨g, 0, none⟩) ∧ v2 = .int .i64 rs.e ∧ C3 wx g rs.k rs.n rs.s ∧ C3 wx gs rs.k rs.n rs.s ∧ C3 wx gp2 rp.k rp.n rp.s ∧ C3 wx gp rp.k rp.n rp.s ∧ Box2 w 1 na sa 1 nb sb wx)
                    case first =>
                      as_aux_lemma =>
                      rename World => wq
                      have hx' := hx
                      obtain ⟨⟨a0, a1, a2, a3⟩, ⟨b0, b1, b2, b3⟩, hbw⟩ := hx'
                      have i2 : InW w.heap.size wq := ⟨a0⟩
                      have i3 : InW (w.heap.size + 1) wq := ⟨b0⟩
                      have hz := hbw.size
                      go_wp2_with ((with_reducible refine ((Q2.out _ _ (by simp [go_sem]) (by simp [go_sem]) (by simp [go_sem]) (by simp [go_sem])).out).mono ?_); intro e w1 hr; obtain ⟨rfl, p, rfl⟩ := hr.out; clear hr; rw [rkV_def])
                      go_meet
                      exact ⟨_, rfl, rfl, ⟨InW.lt, by simp [go_sem], by simp [go_sem], by simp [go_sem]⟩, c3_keep hgs (by repeat' (first | (with_reducible exact Below.refl _ _) | (with_reducible assumption) | (with_reducible refine Below.alloc ?_ ?_ _) | (with_reducible refine Below.drew ?_) | (with_reducible refine belowN ?_ _) | (with_reducible refine Below.setCell ?_ ?_ _) | (with_reducible refine belowG ?_ ?_) | (with_reducible exact Nat.le_refl _) | (with_reducible refine le_sizeG ?_) | (with_reducible refine le_sizeA ?_) | (with_reducible refine le_sizeC ?_) | (with_reducible refine le_sizeD ?_) | (with_reducible refine le_sizeN ?_) | go_size | (simp [go_sem]; done))), c3_keep hgp2 (by repeat' (first | (with_reducible exact Below.refl _ _) | (with_reducible assumption) | (with_reducible refine Below.alloc ?_ ?_ _) | (with_reducible refine Below.drew ?_) | (with_reducible refine belowN ?_ _) | (with_reducible refine Below.setCell ?_ ?_ _) | (with_reducible refine belowG ?_ ?_) | (with_reducible exact Nat.le_refl _) | (with_reducible refine le_sizeG ?_) | (with_reducible refine le_sizeA ?_) | (with_reducible refine le_sizeC ?_) | (with_reducible refine le_sizeD ?_) | (with_reducible refine le_sizeN ?_) | go_size | (simp [go_sem]; done))), c3_keep hgp (by repeat' (first | (with_reducible exact Below.refl _ _) | (with_reducible assumption) | (with_reducible refine Below.alloc ?_ ?_ _) | (with_reducible refine Below.drew ?_) | (with_reducible refine belowN ?_ _) | (with_reducible refine Below.setCell ?_ ?_ _) | (with_reducible refine belowG ?_ ?_) | (with_reducible exact Nat.le_refl _) | (with_reducible refine le_sizeG ?_) | (with_reducible refine le_sizeA ?_) | (with_reducible refine le_sizeC ?_) | (with_reducible refine le_sizeD ?_) | (with_reducible refine le_sizeN ?_) | go_size | (simp [go_sem]; done))), box2_keep hx (by repeat' (first | (with_reducible exact Below.refl _ _) | (with_reducible assumption) | (with_reducible refine Below.alloc ?_ ?_ _) | (with_reducible refine Below.drew ?_) | (with_reducible refine belowN ?_ _) | (with_reducible refine Below.setCell ?_ ?_ _) | (with_reducible refine belowG ?_ ?_) | (with_reducible exact Nat.le_refl _) | (with_reducible refine le_sizeG ?_) | (with_reducible refine le_sizeA ?_) | (with_reducible refine le_sizeC ?_) | (with_reducible refine le_sizeD ?_) | (with_reducible refine le_sizeN ?_) | go_size | (simp [go_sem]; done)))⟩
                    case rest =>
                      clear hx hgs hgp2 hgp
                      obtain ⟨gs2, rfl, rfl, hgs2, hgs, hgp2, hgp, hx⟩ := hcut
                      go_upto_region 18 with (fail)
                      go_cut [133] (fun v wx => v = .bool false ∧ Box2 w 1 na sa 1 nb sb wx)
                      case first =>
                        as_aux_lemma =>
                        have hx' := hx
                        obtain ⟨⟨a0, a1, a2, a3⟩, ⟨b0, b1, b2, b3⟩, hbw⟩ := hx'
                        obtain ⟨x0, x1, x2, x3⟩ := hgp
                        obtain ⟨y0, y1, y2, y3⟩ := hgp2
                        obtain ⟨z0, z1, z2, z3⟩ := hgs
                        obtain ⟨u0, u1, u2, u3⟩ := hgs2
                        go_wp2_with fail
                        go_meet
                        exact ⟨rfl, hx⟩
                      case rest =>
                        clear hx hgp hgp2 hgs hgs2 P P2 Q Q2
                        obtain ⟨rfl, hx⟩ := hcut
                        go_upto_region 20 with (fail)
                        go_cut [19, 20] (fun v1 v2 wx => ∃ g : Nat, v1 = .pointer (some ⟨g, 0, none⟩) ∧ v2 = .int .i64 rd.e ∧ C3 wx g rd.k rd.n rd.s ∧ Box2 w 1 na sa 1 nb sb wx)
                        case first =>
                          as_aux_lemma =>
                          rename World => wq
                          have hx' := hx
                          obtain ⟨⟨a0, a1, a2, a3⟩, ⟨b0, b1, b2, b3⟩, hbw⟩ := hx'
                          have i2 : InW w.heap.size wq := ⟨a0⟩
                          have i3 : InW (w.heap.size + 1) wq := ⟨b0⟩
                          have hz := hbw.size
                          go_wp2_with ((with_reducible refine ((D.out _ _ (by simp [go_sem]) (by simp [go_sem]) (by simp [go_sem]) (by simp [go_sem])).out).mono ?_); intro e w1 hr; obtain ⟨rfl, p, rfl⟩ := hr.out; clear hr; rw [rkV_def])
                          go_meet
                          exact ⟨_, rfl, rfl, ⟨InW.lt, by simp [go_sem], by simp [go_sem], by simp [go_sem]⟩, box2_keep hx (by repeat' (first | (with_reducible exact Below.refl _ _) | (with_reducible assumption) | (with_reducible refine Below.alloc ?_ ?_ _) | (with_reducible refine Below.drew ?_) | (with_reducible refine belowN ?_ _) | (with_reducible refine Below.setCell ?_ ?_ _) | (with_reducible refine belowG ?_ ?_) | (with_reducible exact Nat.le_refl _) | (with_reducible refine le_sizeG ?_) | (with_reducible refine le_sizeA ?_) | (with_reducible refine le_sizeC ?_) | (with_reducible refine le_sizeD ?_) | (with_reducible refine le_sizeN ?_) | go_size | (simp [go_sem]; done)))⟩
                        case rest =>
                          clear hx
                          obtain ⟨gd, rfl, rfl, hgd, hx⟩ := hcut
                          go_upto_region 21 with (fail)
                          go_cut [21, 22] (fun v1 v2 wx => ∃ g : Nat, v1 = .pointer (some ⟨g, 0, none⟩) ∧ v2 = .int .i64 rr.e ∧ C3 wx g rr.k rr.n rr.s ∧ C3 wx gd rd.k rd.n rd.s ∧ Box2 w 1 na sa 1 nb sb wx)
                          case first =>
                            as_aux_lemma =>
                            rename World => wq
                            have hx' := hx
                            obtain ⟨⟨a0, a1, a2, a3⟩, ⟨b0, b1, b2, b3⟩, hbw⟩ := hx'
                            have i2 : InW w.heap.size wq := ⟨a0⟩
                            have i3 : InW (w.heap.size + 1) wq := ⟨b0⟩
                            have hz := hbw.size
                            go_wp2_with ((with_reducible refine ((R.out _ _ (by simp [go_sem]) (by simp [go_sem]) (by simp [go_sem]) (by simp [go_sem])).out).mono ?_); intro e w1 hr; obtain ⟨rfl, p, rfl⟩ := hr.out; clear hr; rw [rkV_def])
                            go_meet
                            exact ⟨_, rfl, rfl, ⟨InW.lt, by simp [go_sem], by simp [go_sem], by simp [go_sem]⟩, c3_keep hgd (by repeat' (first | (with_reducible exact Below.refl _ _) | (with_reducible assumption) | (with_reducible refine Below.alloc ?_ ?_ _) | (with_reducible refine Below.drew ?_) | (with_reducible refine belowN ?_ _) | (with_reducible refine Below.setCell ?_ ?_ _) | (with_reducible refine belowG ?_ ?_) | (with_reducible exact Nat.le_refl _) | (with_reducible refine le_sizeG ?_) | (with_reducible refine le_sizeA ?_) | (with_reducible refine le_sizeC ?_) | (with_reducible refine le_sizeD ?_) | (with_reducible refine le_sizeN ?_) | go_size | (simp [go_sem]; done))), box2_keep hx (by repeat' (first | (with_reducible exact Below.refl _ _) | (with_reducible assumption) | (with_reducible refine Below.alloc ?_ ?_ _) | (with_reducible refine Below.drew ?_) | (with_reducible refine belowN ?_ _) | (with_reducible refine Below.setCell ?_ ?_ _) | (with_reducible refine belowG ?_ ?_) | (with_reducible exact Nat.le_refl _) | (with_reducible refine le_sizeG ?_) | (with_reducible refine le_sizeA ?_) | (with_reducible refine le_sizeC ?_) | (with_reducible refine le_sizeD ?_) | (with_reducible refine le_sizeN ?_) | go_size | (simp [go_sem]; done)))⟩
                          case rest =>
                            clear hx hgd
                            obtain ⟨gr, rfl, rfl, hgr, hgd, hx⟩ := hcut
                            clear D R
                            rcases N.out with ⟨rfl, e1, e2⟩ | ⟨rfl, e1, e2⟩ | ⟨hb0, e1, e2, M, e3, E⟩
                            · clear N hgd hgr
                              as_aux_lemma =>
                              obtain ⟨⟨a0, a1, a2, a3⟩, ⟨b0, b1, b2, b3⟩, hbw⟩ := hx
                              have hz := hbw.size
                              go_wp2
                              go_returns
                              exact ⟨rfl, by repeat' (first | (with_reducible exact Below.refl _ _) | (with_reducible assumption) | (with_reducible refine Below.alloc ?_ ?_ _) | (with_reducible refine Below.drew ?_) | (with_reducible refine belowN ?_ _) | (with_reducible refine Below.setCell ?_ ?_ _) | (with_reducible refine belowG ?_ ?_) | (with_reducible exact Nat.le_refl _) | (with_reducible refine le_sizeG ?_) | (with_reducible refine le_sizeA ?_) | (with_reducible refine le_sizeC ?_) | (with_reducible refine le_sizeD ?_) | (with_reducible refine le_sizeN ?_) | go_size | (simp [go_sem]; done))⟩
                            · clear N hgd hgr
                              as_aux_lemma =>
                              obtain ⟨⟨a0, a1, a2, a3⟩, ⟨b0, b1, b2, b3⟩, hbw⟩ := hx
                              have hz := hbw.size
                              go_wp2
                              go_returns
                              exact ⟨rfl, by repeat' (first | (with_reducible exact Below.refl _ _) | (with_reducible assumption) | (with_reducible refine Below.alloc ?_ ?_ _) | (with_reducible refine Below.drew ?_) | (with_reducible refine belowN ?_ _) | (with_reducible refine Below.setCell ?_ ?_ _) | (with_reducible refine belowG ?_ ?_) | (with_reducible exact Nat.le_refl _) | (with_reducible refine le_sizeG ?_) | (with_reducible refine le_sizeA ?_) | (with_reducible refine le_sizeC ?_) | (with_reducible refine le_sizeD ?_) | (with_reducible refine le_sizeN ?_) | go_size | (simp [go_sem]; done))⟩
                            · clear N
                              have e1' : (rd.e != 0) = false := by rw [e1]; rfl
                              have e2' : (rr.e != 0) = false := by rw [e2]; rfl
                              have e3' : (rm.e == 0) = true := by rw [e3]; rfl
                              clear e1 e2 e3
                              go_upto_region 24 with (fail)
                              go_cut [23, 24] (fun v1 v2 wx => ∃ g : Nat, v1 = .pointer (some ⟨g, 0, none⟩) ∧ v2 = .int .i64 rm.e ∧ C3 wx g rm.k rm.n rm.s ∧ C3 wx gr rr.k rr.n rr.s ∧ Box2 w 1 na sa 1 nb sb wx)
                              case first =>
                                as_aux_lemma =>
                                rename World => wq
                                have hx' := hx
                                obtain ⟨⟨a0, a1, a2, a3⟩, ⟨b0, b1, b2, b3⟩, hbw⟩ := hx'
                                have i2 : InW w.heap.size wq := ⟨a0⟩
                                have i3 : InW (w.heap.size + 1) wq := ⟨b0⟩
                                have hz := hbw.size
                                have qgd := hgd
                                obtain ⟨gd0, gd1, gd2, gd3⟩ := qgd
                                have jgd : InW gd wq := ⟨gd0⟩
                                go_wp2_with ((with_reducible refine ((M.out _ _ (by simp [go_sem]) (by simp [go_sem]) (by simp [go_sem]) (by simp [go_sem])).out).mono ?_); intro e w1 hr; obtain ⟨rfl, p, rfl⟩ := hr.out; clear hr; rw [rkV_def])
                                go_meet
                                exact ⟨_, rfl, rfl, ⟨InW.lt, by simp [go_sem], by simp [go_sem], by simp [go_sem]⟩, c3_keep hgr (by repeat' (first | (with_reducible exact Below.refl _ _) | (with_reducible assumption) | (with_reducible refine Below.alloc ?_ ?_ _) | (with_reducible refine Below.drew ?_) | (with_reducible refine belowN ?_ _) | (with_reducible refine Below.setCell ?_ ?_ _) | (with_reducible refine belowG ?_ ?_) | (with_reducible exact Nat.le_refl _) | (with_reducible refine le_sizeG ?_) | (with_reducible refine le_sizeA ?_) | (with_reducible refine le_sizeC ?_) | (with_reducible refine le_sizeD ?_) | (with_reducible refine le_sizeN ?_) | go_size | (simp [go_sem]; done))), box2_keep hx (by repeat' (first | (with_reducible exact Below.refl _ _) | (with_reducible assumption) | (with_reducible refine Below.alloc ?_ ?_ _) | (with_reducible refine Below.drew ?_) | (with_reducible refine belowN ?_ _) | (with_reducible refine Below.setCell ?_ ?_ _) | (with_reducible refine belowG ?_ ?_) | (with_reducible exact Nat.le_refl _) | (with_reducible refine le_sizeG ?_) | (with_reducible refine le_sizeA ?_) | (with_reducible refine le_sizeC ?_) | (with_reducible refine le_sizeD ?_) | (with_reducible refine le_sizeN ?_) | go_size | (simp [go_sem]; done)))⟩
                              case rest =>
                                clear hx hgr
                                obtain ⟨gm, rfl, rfl, hgm, hgr, hx⟩ := hcut
                                go_upto_region 25 with (fail)
                                go_cut [25, 26] (fun v1 v2 wx => ∃ g : Nat, v1 = .pointer (some ⟨g, 0, none⟩) ∧ v2 = .int .i64 0 ∧ C3 wx g 1 na sa ∧ Box2 w 1 na sa 1 nb sb wx)
                                case first =>
                                  as_aux_lemma =>
                                  rename World => wq
                                  have hx' := hx
                                  obtain ⟨⟨a0, a1, a2, a3⟩, ⟨b0, b1, b2, b3⟩, hbw⟩ := hx'
                                  have i2 : InW w.heap.size wq := ⟨a0⟩
                                  have i3 : InW (w.heap.size + 1) wq := ⟨b0⟩
                                  have hz := hbw.size
                                  have qgm := hgm
                                  obtain ⟨gm0, gm1, gm2, gm3⟩ := qgm
                                  have jgm : InW gm wq := ⟨gm0⟩
                                  have qgr := hgr
                                  obtain ⟨gr0, gr1, gr2, gr3⟩ := qgr
                                  have jgr : InW gr wq := ⟨gr0⟩
                                  go_wp2_with ((with_reducible refine ((E.out _ _ (by simp [go_sem]) (by simp [go_sem]) (by simp [go_sem]) (by simp [go_sem])).out).mono ?_); intro e w1 hr; obtain ⟨rfl, p, rfl⟩ := hr.out; clear hr; rw [rkV_def])
                                  go_meet
                                  exact ⟨_, rfl, rfl, ⟨InW.lt, by simp [go_sem], by simp [go_sem], by simp [go_sem]⟩, box2_keep hx (by repeat' (first | (with_reducible exact Below.refl _ _) | (with_reducible assumption) | (with_reducible refine Below.alloc ?_ ?_ _) | (with_reducible refine Below.drew ?_) | (with_reducible refine belowN ?_ _) | (with_reducible refine Below.setCell ?_ ?_ _) | (with_reducible refine belowG ?_ ?_) | (with_reducible exact Nat.le_refl _) | (with_reducible refine le_sizeG ?_) | (with_reducible refine le_sizeA ?_) | (with_reducible refine le_sizeC ?_) | (with_reducible refine le_sizeD ?_) | (with_reducible refine le_sizeN ?_) | go_size | (simp [go_sem]; done)))⟩
                                case rest =>
                                  clear hx
                                  obtain ⟨ge, rfl, rfl, hge, hx⟩ := hcut
                                  clear M E
                                  as_aux_lemma =>
                                  rename World => wq
                                  obtain ⟨⟨a0, a1, a2, a3⟩, ⟨b0, b1, b2, b3⟩, hbw⟩ := hx
                                  obtain ⟨x0, x1, x2, x3⟩ := hge
                                  have hz := hbw.size
                                  go_wp2
                                  go_returns
                                  first | exact ⟨rfl, by repeat' (first | (with_reducible exact Below.refl _ _) | (with_reducible assumption) | (with_reducible refine Below.alloc ?_ ?_ _) | (with_reducible refine Below.drew ?_) | (with_reducible refine belowN ?_ _) | (with_reducible refine Below.setCell ?_ ?_ _) | (with_reducible refine belowG ?_ ?_) | (with_reducible exact Nat.le_refl _) | (with_reducible refine le_sizeG ?_) | (with_reducible refine le_sizeA ?_) | (with_reducible refine le_sizeC ?_) | (with_reducible refine le_sizeD ?_) | (with_reducible refine le_sizeN ?_) | go_size | (simp [go_sem]; done))⟩ | exact ⟨ret_bl (by simp), by repeat' (first | (with_reducible exact Below.refl _ _) | (with_reducible assumption) | (with_reducible refine Below.alloc ?_ ?_ _) | (with_reducible refine Below.drew ?_) | (with_reducible refine belowN ?_ _) | (with_reducible refine Below.setCell ?_ ?_ _) | (with_reducible refine belowG ?_ ?_) | (with_reducible exact Nat.le_refl _) | (with_reducible refine le_sizeG ?_) | (with_reducible refine le_sizeA ?_) | (with_reducible refine le_sizeC ?_) | (with_reducible refine le_sizeD ?_) | (with_reducible refine le_sizeN ?_) | go_size | (simp [go_sem]; done))⟩
            · have hk1 : (k == 1) = false := by simpa using hk
              have hk2 : (k != 1) = true := by rw [bne, hk1]; rfl
              clear N hk
              as_aux_lemma =>
              have hx' := hx
              obtain ⟨⟨a0, a1, a2, a3⟩, ⟨b0, b1, b2, b3⟩, hbw⟩ := hx'
              have hz := hbw.size
              go_wp2
              go_returns
              exact ⟨rfl, by repeat' (first | (with_reducible exact Below.refl _ _) | (with_reducible assumption) | (with_reducible refine Below.alloc ?_ ?_ _) | (with_reducible refine Below.drew ?_) | (with_reducible refine belowN ?_ _) | (with_reducible refine Below.setCell ?_ ?_ _) | (with_reducible refine belowG ?_ ?_) | (with_reducible exact Nat.le_refl _) | (with_reducible refine le_sizeG ?_) | (with_reducible refine le_sizeA ?_) | (with_reducible refine le_sizeC ?_) | (with_reducible refine le_sizeD ?_) | (with_reducible refine le_sizeN ?_) | go_size | (simp [go_sem]; done))⟩
end Go.Proofs.YtnpjphnmcpglkaaDoor
