import Derived.Test.YtnpjphnmcpglkaaDoorWRk0
import Derived.WalkKit
import Derived.ProofKit
import Derived.OpenShut
import Derived.Handy
import Derived.BigQuiet
import Derived.Lib.Hide
import Derived.Deep.DeepCutAuto
import Derived.Deep.RegionHeld3
import Derived.Lib.Strings
import Derived.WalkLawsBesides
namespace Go.Proofs.YtnpjphnmcpglkaaDoor
open Go.RowKit
set_option maxRecDepth 100000 in
set_option maxHeartbeats 8000000 in
theorem reckons_two (op ka na : Int) (sa : ByteArray) (kb nb : Int) (sb : ByteArray) (r : Rk) (K : Int) (za : sa.size ≤ maxLen) (zb : sb.size ≤ maxLen) (ra : rightB ka na sa = true) (rb : rightB kb nb sb = true)
    (o1 : (op == 1) = false) (o2 : (op == 2) = false)
    (X : Hid (∀ g wx, g < wx.heap.size → wx.cell? ⟨g, 0, none⟩ = some (.int .i64 kb) → wx.cell? ⟨g, 1, none⟩ = some (.int .i64 nb) → wx.cell? ⟨g, 2, none⟩ = some (.string sb) → Hid (Calls Tryd.prog 12 #[.int .i64 op, .agg #[.int .i64 ka, .int .i64 na, .string sa], .slice (some ⟨g, 0, none⟩) 1 1] wx (Ret (rkV r) wx)))) (Y : Hid (∀ wx, Hid (Calls Tryd.prog 12 #[.int .i64 op, .agg #[.int .i64 ka, .int .i64 na, .string sa], .slice none 0 0] wx (Ret (rkV (errR 20)) wx))))
    (V : Hid (∀ wx, Hid (Calls Tryd.prog 15 #[.int .i64 op, .agg #[.int .i64 ka, .int .i64 na, .string sa], .agg #[.int .i64 kb, .int .i64 nb, .string sb]] wx (Ret (rkV r) wx))))
    (Wr : Hid (∀ wx, Hid (Calls Tryd.prog 13 #[.int .i64 op, .int .i64 ka, .int .i64 kb] wx (RetW (.int .i64 K) wx))))
    (Wt : Hid (∀ wx, Hid (Calls Tryd.prog 14 #[.int .i64 op, .int .i64 ka, .int .i64 kb] wx (RetW (.tuple #[.int .i64 K, .bool true]) wx))))
    (hK : (K == 0) = false) (hg : Good r K) (w : World) :
    Calls Tryd.prog 3 #[.int .i64 op, .agg #[.int .i64 ka, .int .i64 na, .string sa], .agg #[.int .i64 kb, .int .i64 nb, .string sb]] w (Ret (.bool true) w) := by
  have ha := fun wx => Lib.hid (rright_any ka na sa wx za)
  have ha := Lib.hid ha
  have hb := fun wx => Lib.hid (rright_any kb nb sb wx zb)
  have hb := Lib.hid hb
  have U := fun wx => Lib.hid (right_any r.k r.n r.s wx (by have := hg.2; unfold maxLen; omega))
  have U := Lib.hid U
  rw [ra] at ha
  rw [rb] at hb
  clear za zb ra rb
  have hg' := Lib.hid hg
  clear hg
  go_enter Tryd.func3, Tryd.ntmps3
  go_upto_region 5 with (first | ((with_reducible refine (anchor_any _).mono ?_); intro e w1 hr; obtain ⟨rfl, p, rfl⟩ := hr.out; clear hr) | ((with_reducible refine (ref_any _ _ _ _).mono ?_); intro e w1 hr; obtain ⟨rfl, p, rfl⟩ := hr.out; clear hr) | ((with_reducible refine ((ha.out _).out).mono ?_); intro e w1 hr; obtain ⟨rfl, p, rfl⟩ := hr.out; clear hr) | ((with_reducible refine ((hb.out _).out).mono ?_); intro e w1 hr; obtain ⟨rfl, p, rfl⟩ := hr.out; clear hr))
  go_cut [7, 8] (fun v1 v2 wx => ∃ g : Nat, v1 = .pointer (some ⟨g, 0, none⟩) ∧ v2 = .int .i64 r.e ∧ w.heap.size + 1 < g ∧ C3 wx g r.k r.n r.s ∧ F3 wx g ∧ Box2 w ka na sa kb nb sb wx)
  case first =>
    go_wp2_with ((with_reducible refine ((X.out _ _ (by simp [go_sem]) (by simp [go_sem]) (by simp [go_sem]) (by simp [go_sem])).out).mono ?_); intro e w1 hr; obtain ⟨rfl, p, rfl⟩ := hr.out; clear hr; rw [rkV_def])
    go_meet
    exact ⟨_, rfl, rfl, InW.lt, ⟨by simp [go_sem], by simp [go_sem], by simp [go_sem], by simp [go_sem]⟩, ⟨by simp [go_sem], by simp [go_sem], by simp [go_sem]⟩, ⟨⟨by simp [go_sem], by simp [go_sem], by simp [go_sem], by simp [go_sem]⟩, ⟨by simp [go_sem], by simp [go_sem], by simp [go_sem], by simp [go_sem]⟩, by repeat' (first | (with_reducible exact Below.refl _ _) | (with_reducible assumption) | (with_reducible refine Below.alloc ?_ ?_ _) | (with_reducible refine Below.drew ?_) | (with_reducible refine belowN ?_ _) | (with_reducible refine Below.setCell ?_ ?_ _) | (with_reducible refine belowG ?_ ?_) | (with_reducible exact Nat.le_refl _) | (with_reducible refine le_sizeG ?_) | (with_reducible refine le_sizeA ?_) | (with_reducible refine le_sizeC ?_) | (with_reducible refine le_sizeD ?_) | (with_reducible refine le_sizeN ?_) | go_size | (simp [go_sem]; done))⟩⟩
  case rest =>
    obtain ⟨g, rfl, rfl, hgt, hv, hf, hx⟩ := hcut
    rename World => wq
    go_upto_if 43 with (fail)
    go_cut [8, 9, 10] (fun v8 _ _ wx => v8 = .int .i64 r.e ∧ C3 wx g r.k r.n r.s ∧ Box2 w ka na sa kb nb sb wx)
    case first =>
      have hv' := hv
      have hx' := hx
      obtain ⟨v0, v1, v2, v3⟩ := hv'
      obtain ⟨f0, f1, f2⟩ := hf
      obtain ⟨⟨a0, a1, a2, a3⟩, ⟨b0, b1, b2, b3⟩, hbw⟩ := hx'
      have i1 : InW g wq := ⟨v0⟩
      have i2 : InW w.heap.size wq := ⟨a0⟩
      have i3 : InW (w.heap.size + 1) wq := ⟨b0⟩
      go_wp2_with ((with_reducible refine ((Y.out _).out).mono ?_); intro e w1 hr; obtain ⟨rfl, p, rfl⟩ := hr.out; clear hr; rw [errR_def])
      go_meet
      exact ⟨rfl, c3_keep hv (by repeat' (first | (with_reducible exact Below.refl _ _) | (with_reducible assumption) | (with_reducible refine Below.alloc ?_ ?_ _) | (with_reducible refine Below.drew ?_) | (with_reducible refine belowN ?_ _) | (with_reducible refine Below.setCell ?_ ?_ _) | (with_reducible refine belowG ?_ ?_) | (with_reducible exact Nat.le_refl _) | (with_reducible refine le_sizeG ?_) | (with_reducible refine le_sizeA ?_) | (with_reducible refine le_sizeC ?_) | (with_reducible refine le_sizeD ?_) | (with_reducible refine le_sizeN ?_) | go_size | (simp [go_sem]; done))), box2_keep hx (by repeat' (first | (with_reducible exact Below.refl _ _) | (with_reducible assumption) | (with_reducible refine Below.alloc ?_ ?_ _) | (with_reducible refine Below.drew ?_) | (with_reducible refine belowN ?_ _) | (with_reducible refine Below.setCell ?_ ?_ _) | (with_reducible refine belowG ?_ ?_) | (with_reducible exact Nat.le_refl _) | (with_reducible refine le_sizeG ?_) | (with_reducible refine le_sizeA ?_) | (with_reducible refine le_sizeC ?_) | (with_reducible refine le_sizeD ?_) | (with_reducible refine le_sizeN ?_) | go_size | (simp [go_sem]; done)))⟩
    case rest =>
      clear hv hf hx
      obtain ⟨rfl, hv, hx⟩ := hcut
      rename World => wr
      have hv' := hv
      have hx' := hx
      obtain ⟨v0, v1, v2, v3⟩ := hv'
      obtain ⟨⟨a0, a1, a2, a3⟩, ⟨b0, b1, b2, b3⟩, hbw⟩ := hx'
      have i1 : InW g wr := ⟨v0⟩
      have i2 : InW w.heap.size wr := ⟨a0⟩
      have i3 : InW (w.heap.size + 1) wr := ⟨b0⟩
      go_upto_region 17 with (first | ((with_reducible refine ((Wr.out _).out).mono ?_); rintro e w1 ⟨rfl, rfl⟩))
      go_cut [14, 15] (fun v1 v2 wx => ∃ h : Nat, v1 = .pointer (some ⟨h, 0, none⟩) ∧ v2 = .int .i64 r.e ∧ C3 wx h r.k r.n r.s ∧ Below wr.heap.size wr wx)
      case first =>
        go_region_held3 (fun w' => w'.cell? ⟨w.heap.size, 0, none⟩ = some (.int .i64 ka) ∧ w'.cell? ⟨w.heap.size, 1, none⟩ = some (.int .i64 na) ∧ w'.cell? ⟨w.heap.size, 2, none⟩ = some (.string sa) ∧ w'.cell? ⟨w.heap.size + 1, 0, none⟩ = some (.int .i64 kb) ∧ w'.cell? ⟨w.heap.size + 1, 1, none⟩ = some (.int .i64 nb) ∧ w'.cell? ⟨w.heap.size + 1, 2, none⟩ = some (.string sb)) ((refine ⟨?_, ?_, ?_, ?_, ?_, ?_⟩ <;> first | assumption | (simp [go_sem, *]; done))) (first | ((with_reducible refine (ref_any _ _ _ _).mono ?_); intro e w1 hr; obtain ⟨rfl, p, rfl⟩ := hr.out; clear hr) | ((with_reducible refine ((V.out _).out).mono ?_); intro e w1 hr; obtain ⟨rfl, p, rfl⟩ := hr.out; clear hr; rw [rkV_def]))
        all_goals (go_wp2_with fail; go_meet; exact ⟨_, rfl, rfl, ⟨InW.lt, by simp [go_sem], by simp [go_sem], by simp [go_sem]⟩, by repeat' (first | (with_reducible exact Below.refl _ _) | (with_reducible assumption) | (with_reducible refine Below.alloc ?_ ?_ _) | (with_reducible refine Below.drew ?_) | (with_reducible refine belowN ?_ _) | (with_reducible refine Below.setCell ?_ ?_ _) | (with_reducible refine belowG ?_ ?_) | (with_reducible exact Nat.le_refl _) | (with_reducible refine le_sizeG ?_) | (with_reducible refine le_sizeA ?_) | (with_reducible refine le_sizeC ?_) | (with_reducible refine le_sizeD ?_) | (with_reducible refine le_sizeN ?_) | go_size | (simp [go_sem]; done))⟩)
      case rest =>
        obtain ⟨h, rfl, rfl, hh, hbw2⟩ := hcut
        clear a0 a1 a2 a3 b0 b1 b2 b3 v0 v1 v2 v3 i1 i2 i3
        have hv2 := c3_keep hv hbw2
        have hx2 := box2_keep hx hbw2
        clear hv hx hbw hbw2
        rename World => ws
        obtain ⟨v0, v1, v2, v3⟩ := hv2
        obtain ⟨h0, h1, h2, h3⟩ := hh
        obtain ⟨⟨a0, a1, a2, a3⟩, ⟨b0, b1, b2, b3⟩, hbw⟩ := hx2
        have i1 : InW g ws := ⟨v0⟩
        have i2 : InW w.heap.size ws := ⟨a0⟩
        have i3 : InW (w.heap.size + 1) ws := ⟨b0⟩
        have i4 : InW h ws := ⟨h0⟩
        have hz := hbw.size
        go_wp2_with (first | ((with_reducible refine ((Wt.out _).out).mono ?_); rintro e w1 ⟨rfl, rfl⟩))
        (refine wp_region_G (by kernel_rfl) (by kernel_rfl) ?_; (repeat (go_big_quiet_step (first | exact quietG (ref_any _ _ _ _) | exact quietGW ((Wr.out _).out)))); refine wpQuiet_nil ?_; intro _ hw'; obtain ⟨pg, hw''⟩ := hw'; subst hw'')
        by_cases he : r.e = 0
        · have hR := Lib.hid ((hg'.out).1 he).1
          have hk1 : (r.k == K) = true := by rw [beq_iff_eq]; exact ((hg'.out).1 he).2
          have he1 : (r.e == 0) = true := by simpa using he
          have he2 : (r.e != 0) = false := by rw [bne, he1]; rfl
          clear he
          go_wp2_with ((with_reducible refine ((U.out _).out).mono ?_); intro e w1 hr; obtain ⟨rfl, p, rfl⟩ := hr.out; clear hr; rw [hR.out])
          go_returns
          first | exact ⟨rfl, by repeat' (first | (with_reducible exact Below.refl _ _) | (with_reducible assumption) | (with_reducible refine Below.alloc ?_ ?_ _) | (with_reducible refine Below.drew ?_) | (with_reducible refine belowN ?_ _) | (with_reducible refine Below.setCell ?_ ?_ _) | (with_reducible refine belowG ?_ ?_) | (with_reducible exact Nat.le_refl _) | (with_reducible refine le_sizeG ?_) | (with_reducible refine le_sizeA ?_) | (with_reducible refine le_sizeC ?_) | (with_reducible refine le_sizeD ?_) | (with_reducible refine le_sizeN ?_) | go_size | (simp [go_sem]; done))⟩ | exact ⟨ret_bl (by simp), by repeat' (first | (with_reducible exact Below.refl _ _) | (with_reducible assumption) | (with_reducible refine Below.alloc ?_ ?_ _) | (with_reducible refine Below.drew ?_) | (with_reducible refine belowN ?_ _) | (with_reducible refine Below.setCell ?_ ?_ _) | (with_reducible refine belowG ?_ ?_) | (with_reducible exact Nat.le_refl _) | (with_reducible refine le_sizeG ?_) | (with_reducible refine le_sizeA ?_) | (with_reducible refine le_sizeC ?_) | (with_reducible refine le_sizeD ?_) | (with_reducible refine le_sizeN ?_) | go_size | (simp [go_sem]; done))⟩
        · have he1 : (r.e == 0) = false := by simpa using he
          have he2 : (r.e != 0) = true := by rw [bne, he1]; rfl
          clear he
          go_wp2
          go_returns
          first | exact ⟨rfl, by repeat' (first | (with_reducible exact Below.refl _ _) | (with_reducible assumption) | (with_reducible refine Below.alloc ?_ ?_ _) | (with_reducible refine Below.drew ?_) | (with_reducible refine belowN ?_ _) | (with_reducible refine Below.setCell ?_ ?_ _) | (with_reducible refine belowG ?_ ?_) | (with_reducible exact Nat.le_refl _) | (with_reducible refine le_sizeG ?_) | (with_reducible refine le_sizeA ?_) | (with_reducible refine le_sizeC ?_) | (with_reducible refine le_sizeD ?_) | (with_reducible refine le_sizeN ?_) | go_size | (simp [go_sem]; done))⟩ | exact ⟨ret_bl (by simp), by repeat' (first | (with_reducible exact Below.refl _ _) | (with_reducible assumption) | (with_reducible refine Below.alloc ?_ ?_ _) | (with_reducible refine Below.drew ?_) | (with_reducible refine belowN ?_ _) | (with_reducible refine Below.setCell ?_ ?_ _) | (with_reducible refine belowG ?_ ?_) | (with_reducible exact Nat.le_refl _) | (with_reducible refine le_sizeG ?_) | (with_reducible refine le_sizeA ?_) | (with_reducible refine le_sizeC ?_) | (with_reducible refine le_sizeD ?_) | (with_reducible refine le_sizeN ?_) | go_size | (simp [go_sem]; done))⟩
end Go.Proofs.YtnpjphnmcpglkaaDoor
