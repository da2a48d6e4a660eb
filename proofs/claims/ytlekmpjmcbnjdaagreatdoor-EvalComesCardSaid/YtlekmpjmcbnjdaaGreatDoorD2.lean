import Derived.Test.YtlekmpjmcbnjdaaGreatDoorD
import Derived.WalkKit
import Derived.ProofKit
import Derived.OpenShut
import Derived.Handy
import Derived.BigQuiet
import Derived.Lib.Hide
import Derived.WalkLawsBesides
import Derived.Deep.DeepCutAuto
namespace Go.Proofs.YtlekmpjmcbnjdaaGreatDoor
open Go.RowKit
/-- The number below 0 of the same size. -/
def mA (a : Int) : Int := if a < 0 then a else -a
theorem mA_bd (a : Int) (h : I64 a) : mA a ≤ 0 ∧ -9223372036854775808 ≤ mA a := by unfold I64 at h; unfold mA; split <;> omega
theorem mA_neg {a : Int} (h : a < 0) : mA a = a := by unfold mA; rw [if_pos h]
theorem mA_pos {a : Int} (h : ¬ a < 0) : mA a = -a := by unfold mA; rw [if_neg h]
theorem wrap_min : wrap64 9223372036854775808 = -9223372036854775808 := by decide +kernel
theorem mA_min : mA (-9223372036854775808) = -9223372036854775808 := mA_neg (by omega)
theorem mA_mul (a b : Int) : mA a * mA b = if (decide (a < 0) == decide (b < 0)) = true then a * b else -(a * b) := by
  by_cases h1 : a < 0 <;> by_cases h2 : b < 0
  all_goals first | rw [mA_neg h1] | rw [mA_pos h1]
  all_goals first | rw [mA_neg h2] | rw [mA_pos h2]
  all_goals simp [h1, h2, Int.mul_neg, Int.neg_mul]
theorem ret_v {a b : Int} (h : a = b) : Value.int .i64 a = .int .i64 b := by rw [h]
/-- Where the guard says so the product is beyond. -/
theorem guard_over {x y : Int} (hx : x < 0) (hx2 : -9223372036854775807 ≤ x) (g : y < wrap64 (wrap64 (Int.tdiv 9223372036854775807 x) - 1)) : 9223372036854775808 < x * y := by
  have e : Int.tdiv 9223372036854775807 x = -(9223372036854775807 / -x) := by
    rw [show x = -(-x) by omega, Int.tdiv_neg, Int.tdiv_eq_ediv_of_nonneg (by omega), Int.neg_neg]
  rw [e] at g
  have h1 : 9223372036854775807 / -x ≤ 9223372036854775807 := Int.ediv_le_self _ (by omega)
  have h2 : 0 ≤ 9223372036854775807 / -x := Int.ediv_nonneg (by omega) (by omega)
  have h3 := Int.mul_ediv_add_emod 9223372036854775807 (-x)
  have h4 := Int.emod_lt_of_pos 9223372036854775807 (b := -x) (by omega)
  generalize 9223372036854775807 / -x = q at *
  rw [wrap_of (-q) (by unfold I64; omega), wrap_of (-q - 1) (by unfold I64; omega)] at g
  have h5 : 0 ≤ (-x) * (-q - 2 - y) := Int.mul_nonneg (by omega) (by omega)
  have h6 : (-x) * (-q - 2 - y) = x * y + x * q + 2 * x := by
    rw [Int.neg_mul, Int.mul_sub, Int.mul_sub, Int.mul_neg]; omega
  rw [h6] at h5
  rw [Int.neg_mul] at h3
  generalize x * q = r at *
  generalize x * y = s at *
  omega
theorem guard_over2 {y : Int} (g : y < -2) : 9223372036854775808 < -9223372036854775808 * y := by omega
theorem over_of {a b : Int} (h : 9223372036854775808 < mA a * mA b) : inR (a * b) = false := by
  rw [mA_mul] at h
  rw [inR_not]
  unfold I64
  split at h <;> generalize a * b = p at * <;> omega
def Over (g : Bool) (p : Int) : Prop := g = true → inR p = false
set_option maxHeartbeats 1000000 in
theorem rtimes_any (a b : Int) (ha : I64 a) (hb : I64 b) (w : World) : Calls Tryz.prog 41 #[.int .i64 a, .int .i64 b] w (Ret (numV (a * b)) w) := by
  obtain ⟨x1, x2⟩ := mA_bd a ha
  obtain ⟨y1, y2⟩ := mA_bd b hb
  have hp := fun wx => Lib.hid (product_any (mA a) (mA b) x1 y1 ⟨x2, by omega⟩ ⟨y2, by omega⟩ wx)
  have hp := Lib.hid hp
  unfold I64 at ha hb
  obtain ⟨a1, a2⟩ := ha
  obtain ⟨b1, b2⟩ := hb
  go_enter Tryz.func41, Tryz.ntmps41
  go_upto_region 1 with (fail)
  go_cut [6] (fun v wx => v = .int .i64 (mA a) ∧ wx = w.alloc (.cells #[.int .i64 0, .int .i64 0, .string ⟨#[]⟩] 39))
  case first =>
    by_cases h1 : a = -9223372036854775808
    · subst h1
      go_wp2_with fail
      all_goals go_meet
      all_goals exact ⟨ret_v (by rw [mA_min]; try exact wrap_min), rfl⟩
    · by_cases h2 : a < 0
      all_goals
        go_wp2_with fail
        all_goals go_meet
        all_goals exact ⟨ret_v (by first | rw [mA_neg (by omega)] | rw [mA_pos (by omega)]; try omega), rfl⟩
  case rest =>
    obtain ⟨rfl, rfl⟩ := hcut
    go_upto_region 2 with (fail)
    go_cut [7] (fun v wx => v = .int .i64 (mA b) ∧ wx = w.alloc (.cells #[.int .i64 0, .int .i64 0, .string ⟨#[]⟩] 39))
    case first =>
      by_cases h1 : b = -9223372036854775808
      · subst h1
        go_wp2_with fail
        all_goals go_meet
        all_goals exact ⟨ret_v (by rw [mA_min]; try exact wrap_min), rfl⟩
      · by_cases h2 : b < 0
        all_goals
          go_wp2_with fail
          all_goals go_meet
          all_goals exact ⟨ret_v (by first | rw [mA_neg (by omega)] | rw [mA_pos (by omega)]; try omega), rfl⟩
    case rest =>
      obtain ⟨rfl, rfl⟩ := hcut
      go_upto_if 18 with (fail)
      go_cut [6] (fun v wx => v = .int .i64 (mA a) ∧ wx = w.alloc (.cells #[.int .i64 0, .int .i64 0, .string ⟨#[]⟩] 39))
      case first =>
        go_wp2_with fail
        all_goals go_meet
        · have h1 : a < 0 := by have : (a == -9223372036854775808) = true := by assumption
                                rw [beq_iff_eq] at this; omega
          exact ⟨ret_v (by rw [mA_neg h1]), rfl⟩
        · exact ⟨rfl, rfl⟩
      case rest =>
        obtain ⟨rfl, rfl⟩ := hcut
        go_upto_if 21 with (fail)
        go_cut [7] (fun v wx => v = .int .i64 (mA b) ∧ wx = w.alloc (.cells #[.int .i64 0, .int .i64 0, .string ⟨#[]⟩] 39))
        case first =>
          go_wp2_with fail
          all_goals go_meet
          · have h1 : b < 0 := by have : (b == -9223372036854775808) = true := by assumption
                                  rw [beq_iff_eq] at this; omega
            exact ⟨ret_v (by rw [mA_neg h1]), rfl⟩
          · exact ⟨rfl, rfl⟩
        case rest =>
          obtain ⟨rfl, rfl⟩ := hcut
          go_upto_region 7 with (fail)
          go_cut [33] (fun v wx => ∃ g : Bool, v = .bool g ∧ Over g (a * b) ∧ wx = w.alloc (.cells #[.int .i64 0, .int .i64 0, .string ⟨#[]⟩] 39))
          case first =>
            have ho := fun h => Lib.hid (over_of (a := a) (b := b) h)
            have ho := Lib.hid ho
            generalize mA a = x at *
            generalize mA b = y at *
            generalize a * b = p at *
            clear hp a1 a2 b1 b2
            by_cases h0 : (x == 0) = true
            · obtain rfl : x = 0 := by simpa using h0
              clear h0
              go_wp2_with fail
              go_meet
              exact ⟨false, rfl, (fun h => by cases h), rfl⟩
            · have h0' : (x == 0) = false := by simpa using h0
              have h0'' : x < 0 := by have : x ≠ 0 := by simpa using h0
                                      omega
              clear h0
              by_cases hm : x = -9223372036854775808
              · subst hm
                go_wp2_with fail
                go_meet
                exact ⟨_, rfl, (fun h => (ho.out (guard_over2 (by simpa using h))).out), rfl⟩
              · have hm' : -9223372036854775807 ≤ x := by omega
                clear hm x2
                go_wp2_with fail
                go_meet
                exact ⟨_, rfl, (fun h => (ho.out (guard_over h0'' hm' (by simp at h; exact h.2))).out), rfl⟩
          case rest =>
            obtain ⟨g, rfl, hg, rfl⟩ := hcut
            have hmm := Lib.hid (mA_mul a b)
            generalize mA a = x at *
            generalize mA b = y at *
            have hq : -(x * y) ≤ 0 := by have := Int.mul_nonneg_of_nonpos_of_nonpos x1 y1; omega
            cases g
            · rcases hT : inR (-(x * y))
              · have hT' := Lib.hid hT
                have he := Lib.hid (show inR (a * b) = false by
                  rw [inR_not] at hT ⊢; rw [hmm.out] at hT hq; unfold I64 at *; split at hT <;> generalize a * b = p at * <;> simp_all <;> omega)
                clear hT hmm hg
                generalize -(x * y) = T at *
                generalize a * b = p at *
                go_wp2_with ((with_reducible refine ((hp.out _).out).mono ?_); intro e w1 hr; obtain ⟨rfl, p, rfl⟩ := hr.out; clear hr; rw [prodV_f hT'.out])
                go_returns
                exact retNum_f he.out (by repeat' (first | (with_reducible exact Below.refl _ _) | (with_reducible assumption) | (with_reducible refine Below.alloc ?_ ?_ _) | (with_reducible refine Below.drew ?_) | (with_reducible refine belowN ?_ _) | (with_reducible refine Below.setCell ?_ ?_ _) | (with_reducible refine belowG ?_ ?_) | (with_reducible refine le_sizeG ?_) | go_size | (simp [go_sem]; done)))
              · have hT' := Lib.hid hT
                by_cases h1 : a < 0 <;> by_cases h2 : b < 0
                all_goals
                  have hm := hmm.out
                  simp only [h1, h2, decide_true, decide_false, beq_self_eq_true, if_true, Bool.true_beq, Bool.false_beq, Bool.not_true, Bool.false_eq_true, if_false] at hm
                  clear hmm hg
                  rw [hm] at hp hT hT' hq
                  clear hm x1 x2 y1 y2 a1 a2 b1 b2
                  try simp only [Int.neg_neg] at hp hT hT' hq
                  generalize a * b = p at *
                  try have d1 : decide (a < 0) = false := decide_eq_false h1
                  try have d2 : decide (b < 0) = false := decide_eq_false h2
                · by_cases hmin : p = 9223372036854775808
                  · subst hmin
                    clear hT hq
                    have he := Lib.hid (show inR 9223372036854775808 = false by decide +kernel)
                    go_wp2_with ((with_reducible refine ((hp.out _).out).mono ?_); intro e w1 hr; obtain ⟨rfl, p, rfl⟩ := hr.out; clear hr; rw [prodV_t hT'.out])
                    go_returns
                    exact retNum_f he.out (by repeat' (first | (with_reducible exact Below.refl _ _) | (with_reducible assumption) | (with_reducible refine Below.alloc ?_ ?_ _) | (with_reducible refine Below.drew ?_) | (with_reducible refine belowN ?_ _) | (with_reducible refine Below.setCell ?_ ?_ _) | (with_reducible refine belowG ?_ ?_) | (with_reducible refine le_sizeG ?_) | go_size | (simp [go_sem]; done)))
                  · have hb1 : (-p == -9223372036854775808) = false := by rw [beq_eq_false_iff_ne]; omega
                    have he := Lib.hid (show inR p = true by rw [inR_iff] at hT ⊢; unfold I64 at *; omega)
                    clear hT hmin
                    go_wp2_with ((with_reducible refine ((hp.out _).out).mono ?_); intro e w1 hr; obtain ⟨rfl, p, rfl⟩ := hr.out; clear hr; rw [prodV_t hT'.out])
                    go_returns
                    exact retNum_t he.out (by first | rfl | exact wrap_inR he.out) (by repeat' (first | (with_reducible exact Below.refl _ _) | (with_reducible assumption) | (with_reducible refine Below.alloc ?_ ?_ _) | (with_reducible refine Below.drew ?_) | (with_reducible refine belowN ?_ _) | (with_reducible refine Below.setCell ?_ ?_ _) | (with_reducible refine belowG ?_ ?_) | (with_reducible refine le_sizeG ?_) | go_size | (simp [go_sem]; done)))
                · clear hT
                  go_wp2_with ((with_reducible refine ((hp.out _).out).mono ?_); intro e w1 hr; obtain ⟨rfl, p, rfl⟩ := hr.out; clear hr; rw [prodV_t hT'.out])
                  go_returns
                  exact retNum_t hT'.out rfl (by repeat' (first | (with_reducible exact Below.refl _ _) | (with_reducible assumption) | (with_reducible refine Below.alloc ?_ ?_ _) | (with_reducible refine Below.drew ?_) | (with_reducible refine belowN ?_ _) | (with_reducible refine Below.setCell ?_ ?_ _) | (with_reducible refine belowG ?_ ?_) | (with_reducible refine le_sizeG ?_) | go_size | (simp [go_sem]; done)))
                · clear hT
                  go_wp2_with ((with_reducible refine ((hp.out _).out).mono ?_); intro e w1 hr; obtain ⟨rfl, p, rfl⟩ := hr.out; clear hr; rw [prodV_t hT'.out])
                  go_returns
                  exact retNum_t hT'.out rfl (by repeat' (first | (with_reducible exact Below.refl _ _) | (with_reducible assumption) | (with_reducible refine Below.alloc ?_ ?_ _) | (with_reducible refine Below.drew ?_) | (with_reducible refine belowN ?_ _) | (with_reducible refine Below.setCell ?_ ?_ _) | (with_reducible refine belowG ?_ ?_) | (with_reducible refine le_sizeG ?_) | go_size | (simp [go_sem]; done)))
                · by_cases hmin : p = 9223372036854775808
                  · subst hmin
                    clear hT hq
                    have he := Lib.hid (show inR 9223372036854775808 = false by decide +kernel)
                    go_wp2_with ((with_reducible refine ((hp.out _).out).mono ?_); intro e w1 hr; obtain ⟨rfl, p, rfl⟩ := hr.out; clear hr; rw [prodV_t hT'.out])
                    go_returns
                    exact retNum_f he.out (by repeat' (first | (with_reducible exact Below.refl _ _) | (with_reducible assumption) | (with_reducible refine Below.alloc ?_ ?_ _) | (with_reducible refine Below.drew ?_) | (with_reducible refine belowN ?_ _) | (with_reducible refine Below.setCell ?_ ?_ _) | (with_reducible refine belowG ?_ ?_) | (with_reducible refine le_sizeG ?_) | go_size | (simp [go_sem]; done)))
                  · have hb1 : (-p == -9223372036854775808) = false := by rw [beq_eq_false_iff_ne]; omega
                    have he := Lib.hid (show inR p = true by rw [inR_iff] at hT ⊢; unfold I64 at *; omega)
                    clear hT hmin
                    go_wp2_with ((with_reducible refine ((hp.out _).out).mono ?_); intro e w1 hr; obtain ⟨rfl, p, rfl⟩ := hr.out; clear hr; rw [prodV_t hT'.out])
                    go_returns
                    exact retNum_t he.out (by first | rfl | exact wrap_inR he.out) (by repeat' (first | (with_reducible exact Below.refl _ _) | (with_reducible assumption) | (with_reducible refine Below.alloc ?_ ?_ _) | (with_reducible refine Below.drew ?_) | (with_reducible refine belowN ?_ _) | (with_reducible refine Below.setCell ?_ ?_ _) | (with_reducible refine belowG ?_ ?_) | (with_reducible refine le_sizeG ?_) | go_size | (simp [go_sem]; done)))
            · have he := Lib.hid (hg rfl)
              clear hp hmm hg
              go_wp2
              go_returns
              exact retNum_f he.out (by repeat' (first | (with_reducible exact Below.refl _ _) | (with_reducible assumption) | (with_reducible refine Below.alloc ?_ ?_ _) | (with_reducible refine Below.drew ?_) | (with_reducible refine belowN ?_ _) | (with_reducible refine Below.setCell ?_ ?_ _) | (with_reducible refine belowG ?_ ?_) | (with_reducible refine le_sizeG ?_) | go_size | (simp [go_sem]; done)))
end Go.Proofs.YtlekmpjmcbnjdaaGreatDoor

