import Derived.Test.YtlekmpjmcbnjdaaGreatDoorZ2
import Derived.WalkKit
import Derived.ProofKit
import Derived.OpenShut
import Derived.Handy
import Derived.BigQuiet
import Derived.Lib.Hide
import Derived.WalkLawsBesides
namespace Go.Proofs.YtlekmpjmcbnjdaaGreatDoor
open Go.RowKit
def prodV (T : Int) : Value := .agg #[.int .i64 (nK T), .int .i64 (nN T), .string ⟨#[]⟩]
theorem prodV_t {T : Int} (h : inR T = true) : prodV T = .agg #[.int .i64 1, .int .i64 T, .string ⟨#[]⟩] := by simp [prodV, nK_t, nN_t, h]
theorem prodV_f {T : Int} (h : inR T = false) : prodV T = .agg #[.int .i64 0, .int .i64 0, .string ⟨#[]⟩] := by simp [prodV, nK_f, nN_f, h]
/-- What holds while a product is made by halves. -/
def PInv (T X Y O : Int) : Prop := O - X * Y = T ∧ I64 X ∧ I64 Y ∧ I64 O ∧ X ≤ 0 ∧ Y ≤ 0 ∧ O ≤ 0
theorem tdiv2 (Y : Int) (h : Y ≤ 0) : 2 * Y.tdiv 2 - Y = 0 ∧ Y.tmod 2 = 0 ∨ 2 * Y.tdiv 2 - Y = 1 ∧ Y.tmod 2 = -1 := by
  have h1 := Int.tdiv_mul_add_tmod Y 2
  obtain ⟨r, e1, e2, e3, e4⟩ := tdiv_mul Y 2 (by omega)
  omega
theorem pinv_end {T X O : Int} (h : PInv T X 0 O) : inR T = true ∧ O = T := by
  obtain ⟨h1, h2, h3, h4, _⟩ := h
  have : O = T := by rw [← h1]; simp
  exact ⟨by rw [← this, inR_iff]; exact h4, this⟩
theorem pinv_over1 {T X Y O : Int} (h : PInv T X Y O) (hY : Y ≠ 0) (ho : O < -9223372036854775808 - X) : inR T = false := by
  obtain ⟨h1, h2, h3, h4, h5, h6, h7⟩ := h
  rw [inR_not]
  have : 0 ≤ (-X) * (-Y - 1) := Int.mul_nonneg (by omega) (by omega)
  have e : (-X) * (-Y - 1) = X * Y + X := by rw [Int.mul_sub, Int.neg_mul_neg]; omega
  rw [e] at this
  unfold I64; generalize X * Y = p at *; omega
theorem pinv_over2 {T X Y O : Int} (h : PInv T X Y O) (hY : Y.tdiv 2 ≠ 0) (ho : X < -4611686018427387904) : inR T = false := by
  obtain ⟨h1, h2, h3, h4, h5, h6, h7⟩ := h
  rw [inR_not]
  have hd := tdiv2 Y h6
  have : 0 ≤ (-X) * (-Y - 2) := Int.mul_nonneg (by omega) (by omega)
  have e : (-X) * (-Y - 2) = X * Y + 2 * X := by rw [Int.mul_sub, Int.neg_mul_neg]; omega
  rw [e] at this
  unfold I64; generalize X * Y = p at *; omega
theorem pinv_odd {T X Y O : Int} (h : PInv T X Y O) (ho : ¬ O < -9223372036854775808 - X) (hm : Y.tmod 2 ≠ 0) (hx : ¬ X < -4611686018427387904) : PInv T (2 * X) (Y.tdiv 2) (O + X) := by
  obtain ⟨h1, h2, h3, h4, h5, h6, h7⟩ := h
  have hd := tdiv2 Y h6
  have e : X * Y = 2 * X * Y.tdiv 2 - X := by
    have : Y = 2 * Y.tdiv 2 - 1 := by omega
    conv => lhs; rw [this]
    rw [Int.mul_sub, Int.mul_one, ← Int.mul_assoc, Int.mul_comm X 2]
  unfold PInv
  rw [e] at h1
  generalize 2 * X * Y.tdiv 2 = p at *
  unfold I64 at *; omega
theorem pinv_oddE {T X Y O : Int} (h : PInv T X Y O) (ho : ¬ O < -9223372036854775808 - X) (hm : Y.tmod 2 ≠ 0) (hq : Y.tdiv 2 = 0) : PInv T X 0 (O + X) := by
  obtain ⟨h1, h2, h3, h4, h5, h6, h7⟩ := h
  have hd := tdiv2 Y h6
  have e : X * Y = - X := by
    have : Y = -1 := by omega
    rw [this]; omega
  unfold PInv
  rw [e] at h1
  simp only [Int.mul_zero]
  unfold I64 at *; omega
theorem pinv_even {T X Y O : Int} (h : PInv T X Y O) (hm : Y.tmod 2 = 0) (hx : ¬ X < -4611686018427387904) : PInv T (2 * X) (Y.tdiv 2) O := by
  obtain ⟨h1, h2, h3, h4, h5, h6, h7⟩ := h
  have hd := tdiv2 Y h6
  have e : X * Y = 2 * X * Y.tdiv 2 := by
    have : Y = 2 * Y.tdiv 2 := by omega
    conv => lhs; rw [this]
    rw [← Int.mul_assoc, Int.mul_comm X 2]
  unfold PInv
  rw [e] at h1
  generalize 2 * X * Y.tdiv 2 = p at *
  unfold I64 at *; omega
theorem retP_t {T : Int} (h : inR T = true) {O : Int} (hO : O = T) {w w' : World} (h2 : Below w.heap.size w w') : Ret (prodV T) w (.returned (.agg #[.int .i64 1, .int .i64 O, .string ⟨#[]⟩])) w' := ⟨by rw [prodV_t h, hO], h2⟩
theorem retP_f {T : Int} (h : inR T = false) {w w' : World} (h2 : Below w.heap.size w w') : Ret (prodV T) w (.returned (.agg #[.int .i64 0, .int .i64 0, .string ⟨#[]⟩])) w' := ⟨by rw [prodV_f h], h2⟩
set_option maxHeartbeats 1000000 in
theorem product_any (x0 y0 : Int) (hx : x0 ≤ 0) (hy : y0 ≤ 0) (hxI : I64 x0) (hyI : I64 y0) (w : World) : Calls Tryz.prog 68 #[.int .i64 x0, .int .i64 y0] w (Ret (prodV (-(x0 * y0))) w) := by
  have h0 := Lib.hid (show PInv (-(x0 * y0)) x0 y0 0 from ⟨by omega, hxI, hyI, by unfold I64; omega, hx, hy, by omega⟩)
  generalize -(x0 * y0) = T at *
  clear hx hy hxI hyI
  go_enter Tryz.func68, Tryz.ntmps68
  go_wp2
  go_loop [0, 1, 5] (fun x y o => ∃ X Y O : Int, PInv T X Y O ∧ x = .int .i64 X ∧ y = .int .i64 Y ∧ o = .int .i64 O) (fun _ y _ => (intOf y).natAbs)
  case atStart => exact ⟨_, _, _, h0.out, rfl, rfl, rfl⟩
  case round =>
    clear h0
    obtain ⟨X, Y, O, hi, rfl, rfl, rfl⟩ := hrel
    have hi' := hi
    obtain ⟨-, ⟨x1, x2⟩, ⟨y1, y2⟩, ⟨o1, o2⟩, x3, y3, o3⟩ := hi'
    have hd := tdiv2 Y y3
    by_cases hY : Y = 0
    · subst hY
      have he := Lib.hid (pinv_end hi)
      clear hi hd
      go_wp2
      go_returns
      exact retP_t he.out.1 he.out.2 (by repeat' (first | (with_reducible exact Below.refl _ _) | (with_reducible assumption) | (with_reducible refine Below.alloc ?_ ?_ _) | (with_reducible refine Below.drew ?_) | (with_reducible refine belowN ?_ _) | (with_reducible refine Below.setCell ?_ ?_ _) | (with_reducible refine belowG ?_ ?_) | (with_reducible refine le_sizeG ?_) | go_size | (simp [go_sem]; done)))
    · have q1 : Y.tdiv 2 ≤ 0 := by omega
      have q2 : -9223372036854775808 ≤ Y.tdiv 2 := by omega
      have q3 : (Y.tdiv 2).natAbs < Y.natAbs := by omega
      by_cases hm : Y.tmod 2 = 0
      · have hm' : (Y.tmod 2 == 0) = true := by simpa using hm
        have hq : (Y.tdiv 2 == 0) = false := by rw [beq_eq_false_iff_ne]; omega
        by_cases hX : X < -4611686018427387904
        · have he := Lib.hid (pinv_over2 hi (by omega) hX)
          clear hi hd hm
          go_wp2
          go_returns
          exact retP_f he.out (by repeat' (first | (with_reducible exact Below.refl _ _) | (with_reducible assumption) | (with_reducible refine Below.alloc ?_ ?_ _) | (with_reducible refine Below.drew ?_) | (with_reducible refine belowN ?_ _) | (with_reducible refine Below.setCell ?_ ?_ _) | (with_reducible refine belowG ?_ ?_) | (with_reducible refine le_sizeG ?_) | go_size | (simp [go_sem]; done)))
        · have he := pinv_even hi hm hX
          clear hi hd hm
          go_wp2
          go_round
          case rel => exact ⟨_, _, _, he, rfl, rfl, rfl⟩
          case measure => simpa [intOf] using q3
      · have hm' : (Y.tmod 2 == 0) = false := by simpa using hm
        by_cases ho : O < -9223372036854775808 - X
        · have he := Lib.hid (pinv_over1 hi hY ho)
          clear hi hd hm
          go_wp2
          go_returns
          exact retP_f he.out (by repeat' (first | (with_reducible exact Below.refl _ _) | (with_reducible assumption) | (with_reducible refine Below.alloc ?_ ?_ _) | (with_reducible refine Below.drew ?_) | (with_reducible refine belowN ?_ _) | (with_reducible refine Below.setCell ?_ ?_ _) | (with_reducible refine belowG ?_ ?_) | (with_reducible refine le_sizeG ?_) | go_size | (simp [go_sem]; done)))
        · by_cases hq0 : Y.tdiv 2 = 0
          · have he := pinv_oddE hi ho hm hq0
            have hq : (Y.tdiv 2 == 0) = true := by simpa using hq0
            have q4 := Lib.hid hq0
            clear hi hd hm hq0
            go_wp2
            go_round
            case rel => exact ⟨_, _, _, he, rfl, by rw [q4.out], rfl⟩
            case measure => simpa [intOf] using q3
          · have hq : (Y.tdiv 2 == 0) = false := by simpa using hq0
            by_cases hX : X < -4611686018427387904
            · have he := Lib.hid (pinv_over2 hi (by omega) hX)
              clear hi hd hm
              go_wp2
              go_returns
              exact retP_f he.out (by repeat' (first | (with_reducible exact Below.refl _ _) | (with_reducible assumption) | (with_reducible refine Below.alloc ?_ ?_ _) | (with_reducible refine Below.drew ?_) | (with_reducible refine belowN ?_ _) | (with_reducible refine Below.setCell ?_ ?_ _) | (with_reducible refine belowG ?_ ?_) | (with_reducible refine le_sizeG ?_) | go_size | (simp [go_sem]; done)))
            · have he := pinv_odd hi ho hm hX
              clear hi hd hm
              go_wp2
              go_round
              case rel => exact ⟨_, _, _, he, rfl, rfl, rfl⟩
              case measure => simpa [intOf] using q3
end Go.Proofs.YtlekmpjmcbnjdaaGreatDoor

