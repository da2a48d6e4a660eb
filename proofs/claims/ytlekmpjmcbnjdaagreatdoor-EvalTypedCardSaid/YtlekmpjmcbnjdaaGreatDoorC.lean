import Derived.Test.YtlekmpjmcbnjdaaGreatDoorZ2
import Derived.WalkKit
import Derived.ProofKit
import Derived.OpenShut
import Derived.Handy
import Derived.BigQuiet
import Derived.Lib.Hide
import Derived.WalkLawsBesides
namespace Go.Proofs.YtlekmpjmcbnjdaaGreatDoor
open Go.RowKit
theorem sum_any (a b : Int) (ha : I64 a) (hb : I64 b) (w : World) : Calls Tryz.prog 44 #[.int .i64 a, .int .i64 b] w (Ret (numV (a + b)) w) := by
  have hi := Lib.hid (show inR (a + b) = true ↔ I64 (a + b) from inR_iff _)
  unfold I64 at ha hb
  obtain ⟨ha1, ha2⟩ := ha
  obtain ⟨hb1, hb2⟩ := hb
  by_cases h1 : 0 < b
  · by_cases h2 : 9223372036854775807 - b < a
    · have h' := Lib.hid (show inR (a + b) = false by rw [inR_not]; unfold I64; omega)
      go_enter Tryz.func44, Tryz.ntmps44
      go_wp2
      go_returns
      exact retNum_f h'.out (by repeat' (first | (with_reducible exact Below.refl _ _) | (with_reducible assumption) | (with_reducible refine Below.alloc ?_ ?_ _) | (with_reducible refine Below.drew ?_) | (with_reducible refine belowN ?_ _) | (with_reducible refine Below.setCell ?_ ?_ _) | (with_reducible refine belowG ?_ ?_) | (with_reducible refine le_sizeG ?_) | go_size | (simp [go_sem]; done)))
    · have h' := Lib.hid (show inR (a + b) = true by rw [inR_iff]; unfold I64; omega)
      go_enter Tryz.func44, Tryz.ntmps44
      go_wp2
      go_returns
      exact retNum_t h'.out (by first | rfl | exact wrap_inR h'.out) (by repeat' (first | (with_reducible exact Below.refl _ _) | (with_reducible assumption) | (with_reducible refine Below.alloc ?_ ?_ _) | (with_reducible refine Below.drew ?_) | (with_reducible refine belowN ?_ _) | (with_reducible refine Below.setCell ?_ ?_ _) | (with_reducible refine belowG ?_ ?_) | (with_reducible refine le_sizeG ?_) | go_size | (simp [go_sem]; done)))
  · by_cases h3 : b < 0
    · by_cases h2 : a < -9223372036854775808 - b
      · have h' := Lib.hid (show inR (a + b) = false by rw [inR_not]; unfold I64; omega)
        go_enter Tryz.func44, Tryz.ntmps44
        go_wp2
        go_returns
        exact retNum_f h'.out (by repeat' (first | (with_reducible exact Below.refl _ _) | (with_reducible assumption) | (with_reducible refine Below.alloc ?_ ?_ _) | (with_reducible refine Below.drew ?_) | (with_reducible refine belowN ?_ _) | (with_reducible refine Below.setCell ?_ ?_ _) | (with_reducible refine belowG ?_ ?_) | (with_reducible refine le_sizeG ?_) | go_size | (simp [go_sem]; done)))
      · have h' := Lib.hid (show inR (a + b) = true by rw [inR_iff]; unfold I64; omega)
        go_enter Tryz.func44, Tryz.ntmps44
        go_wp2
        go_returns
        exact retNum_t h'.out (by first | rfl | exact wrap_inR h'.out) (by repeat' (first | (with_reducible exact Below.refl _ _) | (with_reducible assumption) | (with_reducible refine Below.alloc ?_ ?_ _) | (with_reducible refine Below.drew ?_) | (with_reducible refine belowN ?_ _) | (with_reducible refine Below.setCell ?_ ?_ _) | (with_reducible refine belowG ?_ ?_) | (with_reducible refine le_sizeG ?_) | go_size | (simp [go_sem]; done)))
    · have h' := Lib.hid (show inR (a + b) = true by rw [inR_iff]; unfold I64; omega)
      go_enter Tryz.func44, Tryz.ntmps44
      go_wp2
      go_returns
      exact retNum_t h'.out (by first | rfl | exact wrap_inR h'.out) (by repeat' (first | (with_reducible exact Below.refl _ _) | (with_reducible assumption) | (with_reducible refine Below.alloc ?_ ?_ _) | (with_reducible refine Below.drew ?_) | (with_reducible refine belowN ?_ _) | (with_reducible refine Below.setCell ?_ ?_ _) | (with_reducible refine belowG ?_ ?_) | (with_reducible refine le_sizeG ?_) | go_size | (simp [go_sem]; done)))
theorem less_any (a b : Int) (ha : I64 a) (hb : I64 b) (w : World) : Calls Tryz.prog 40 #[.int .i64 a, .int .i64 b] w (Ret (numV (a - b)) w) := by
  by_cases h1 : b = -9223372036854775808
  · subst h1
    unfold I64 at ha
    obtain ⟨ha1, ha2⟩ := ha
    by_cases h2 : 0 ≤ a
    · have h' := Lib.hid (show inR (a - -9223372036854775808) = false by rw [inR_not]; unfold I64; omega)
      go_enter Tryz.func40, Tryz.ntmps40
      go_wp2
      go_returns
      exact retNum_f h'.out (by repeat' (first | (with_reducible exact Below.refl _ _) | (with_reducible assumption) | (with_reducible refine Below.alloc ?_ ?_ _) | (with_reducible refine Below.drew ?_) | (with_reducible refine belowN ?_ _) | (with_reducible refine Below.setCell ?_ ?_ _) | (with_reducible refine belowG ?_ ?_) | (with_reducible refine le_sizeG ?_) | go_size | (simp [go_sem]; done)))
    · have h' := Lib.hid (show inR (a - -9223372036854775808) = true by rw [inR_iff]; unfold I64; omega)
      go_enter Tryz.func40, Tryz.ntmps40
      go_wp2
      go_returns
      exact retNum_t h'.out (by first | rfl | exact wrap_inR h'.out | omega) (by repeat' (first | (with_reducible exact Below.refl _ _) | (with_reducible assumption) | (with_reducible refine Below.alloc ?_ ?_ _) | (with_reducible refine Below.drew ?_) | (with_reducible refine belowN ?_ _) | (with_reducible refine Below.setCell ?_ ?_ _) | (with_reducible refine belowG ?_ ?_) | (with_reducible refine le_sizeG ?_) | go_size | (simp [go_sem]; done)))
  · have h1' : (b == -9223372036854775808) = false := by simpa using h1
    have hn : wrap64 (-b) = -b := wrap_of _ (by unfold I64 at *; omega)
    have hc := Lib.hid (sum_any a (-b) ha (by unfold I64 at *; omega))
    rw [show a - b = a + -b by omega]
    clear ha hb h1
    generalize hx : a + -b = x at *
    have hx' := Lib.hid hx
    clear hx
    have hv : Hid (numV x = .tuple #[.agg #[.int .i64 (nK x), .int .i64 (nN x), .string ⟨#[]⟩], .int .i64 (nE x)]) := rfl
    go_enter Tryz.func40, Tryz.ntmps40
    go_wp2_with (first | ((with_reducible refine (hc.out _).mono ?_); intro e w1 hr; obtain ⟨rfl, p, rfl⟩ := hr.out; clear hr; rw [hv.out]))
    go_returns
    exact ⟨rfl, by repeat' (first | (with_reducible exact Below.refl _ _) | (with_reducible assumption) | (with_reducible refine Below.alloc ?_ ?_ _) | (with_reducible refine Below.drew ?_) | (with_reducible refine belowN ?_ _) | (with_reducible refine Below.setCell ?_ ?_ _) | (with_reducible refine belowG ?_ ?_) | (with_reducible refine le_sizeG ?_) | go_size | (simp [go_sem]; done))⟩
theorem rest_eq (a b : Int) (ha : I64 a) (hb : b ≠ 0) (h : ¬ (a = -9223372036854775808 ∧ b = -1)) : wrap64 (a - wrap64 (wrap64 (a.tdiv b) * b)) = a.tmod b := by
  have h1 := tdiv_I64 a b ha hb h
  rw [wrap_of _ h1]
  have h2 := Int.tdiv_mul_add_tmod a b
  obtain ⟨r, e1, e2, e3, e4⟩ := tdiv_mul a b hb
  have e : r = a.tmod b := by omega
  subst e
  have e5 : (a.tmod b).natAbs ≤ a.natAbs := by rw [Int.natAbs_tmod]; exact Nat.mod_le _ _
  have h3 : I64 (a.tdiv b * b) := by unfold I64 at *; generalize a.tdiv b * b = q at *; omega
  rw [wrap_of _ h3]
  have h4 : a - a.tdiv b * b = a.tmod b := by omega
  rw [h4]
  refine wrap_of _ ?_
  unfold I64 at *; generalize a.tdiv b * b = q at *; omega
theorem divide_z (a : Int) (r : Bool) (w : World) : Calls Tryz.prog 42 #[.int .i64 a, .int .i64 0, .bool r] w (Ret divV w) := by
  go_enter Tryz.func42, Tryz.ntmps42
  go_wp2
  go_returns
  exact ⟨rfl, by repeat' (first | (with_reducible exact Below.refl _ _) | (with_reducible assumption) | (with_reducible refine Below.alloc ?_ ?_ _) | (with_reducible refine Below.drew ?_) | (with_reducible refine belowN ?_ _) | (with_reducible refine Below.setCell ?_ ?_ _) | (with_reducible refine belowG ?_ ?_) | (with_reducible refine le_sizeG ?_) | go_size | (simp [go_sem]; done))⟩
theorem divide_q (a b : Int) (ha : I64 a) (hb : I64 b) (hb0 : (b == 0) = false) (w : World) : Calls Tryz.prog 42 #[.int .i64 a, .int .i64 b, .bool false] w (Ret (numV (a.tdiv b)) w) := by
  have h0' : ¬ b = 0 := by simpa using hb0
  by_cases h : a = -9223372036854775808 ∧ b = -1
  · obtain ⟨rfl, rfl⟩ := h
    have h' := Lib.hid (show inR (Int.tdiv (-9223372036854775808) (-1)) = false by decide +kernel)
    generalize Int.tdiv (-9223372036854775808) (-1) = x at *
    clear ha hb hb0 h0'
    go_enter Tryz.func42, Tryz.ntmps42
    go_wp2
    go_returns
    exact retNum_f h'.out (by repeat' (first | (with_reducible exact Below.refl _ _) | (with_reducible assumption) | (with_reducible refine Below.alloc ?_ ?_ _) | (with_reducible refine Below.drew ?_) | (with_reducible refine belowN ?_ _) | (with_reducible refine Below.setCell ?_ ?_ _) | (with_reducible refine belowG ?_ ?_) | (with_reducible refine le_sizeG ?_) | go_size | (simp [go_sem]; done)))
  · have h' := Lib.hid (show inR (a.tdiv b) = true by rw [inR_iff]; exact tdiv_I64 a b ha h0' h)
    by_cases h1 : a = -9223372036854775808
    · have h2 : (b == -1) = false := by simpa using fun e => h ⟨h1, e⟩
      have h1' : (a == -9223372036854775808) = true := by simpa using h1
      clear ha hb h h1
      go_enter Tryz.func42, Tryz.ntmps42
      go_wp2
      go_returns
      exact retNum_t h'.out (by first | rfl | exact wrap_inR h'.out) (by repeat' (first | (with_reducible exact Below.refl _ _) | (with_reducible assumption) | (with_reducible refine Below.alloc ?_ ?_ _) | (with_reducible refine Below.drew ?_) | (with_reducible refine belowN ?_ _) | (with_reducible refine Below.setCell ?_ ?_ _) | (with_reducible refine belowG ?_ ?_) | (with_reducible refine le_sizeG ?_) | go_size | (simp [go_sem]; done)))
    · have h1' : (a == -9223372036854775808) = false := by simpa using h1
      clear ha hb h h1
      go_enter Tryz.func42, Tryz.ntmps42
      go_wp2
      go_returns
      exact retNum_t h'.out (by first | rfl | exact wrap_inR h'.out) (by repeat' (first | (with_reducible exact Below.refl _ _) | (with_reducible assumption) | (with_reducible refine Below.alloc ?_ ?_ _) | (with_reducible refine Below.drew ?_) | (with_reducible refine belowN ?_ _) | (with_reducible refine Below.setCell ?_ ?_ _) | (with_reducible refine belowG ?_ ?_) | (with_reducible refine le_sizeG ?_) | go_size | (simp [go_sem]; done)))
theorem divide_r (a b : Int) (ha : I64 a) (hb0 : (b == 0) = false) (w : World) : Calls Tryz.prog 42 #[.int .i64 a, .int .i64 b, .bool true] w (Ret (okV (a.tmod b)) w) := by
  have h0' : ¬ b = 0 := by simpa using hb0
  by_cases h : a = -9223372036854775808 ∧ b = -1
  · obtain ⟨rfl, rfl⟩ := h
    have e : okV (Int.tmod (-9223372036854775808) (-1)) = okV 0 := by
      have : Int.tmod (-9223372036854775808) (-1) = 0 := by decide +kernel
      rw [this]
    rw [e]
    clear ha hb0 h0' e
    go_enter Tryz.func42, Tryz.ntmps42
    go_wp2
    go_returns
    exact ⟨rfl, by repeat' (first | (with_reducible exact Below.refl _ _) | (with_reducible assumption) | (with_reducible refine Below.alloc ?_ ?_ _) | (with_reducible refine Below.drew ?_) | (with_reducible refine belowN ?_ _) | (with_reducible refine Below.setCell ?_ ?_ _) | (with_reducible refine belowG ?_ ?_) | (with_reducible refine le_sizeG ?_) | go_size | (simp [go_sem]; done))⟩
  · have h' := Lib.hid (rest_eq a b ha h0' h)
    have hv : Hid (okV (a.tmod b) = .tuple #[.agg #[.int .i64 1, .int .i64 (a.tmod b), .string ⟨#[]⟩], .int .i64 0]) := rfl
    by_cases h1 : a = -9223372036854775808
    · have h2 : (b == -1) = false := by simpa using fun e => h ⟨h1, e⟩
      have h1' : (a == -9223372036854775808) = true := by simpa using h1
      clear ha h h1
      go_enter Tryz.func42, Tryz.ntmps42
      go_wp2
      go_returns
      exact ⟨by rw [hv.out, ← h'.out], by repeat' (first | (with_reducible exact Below.refl _ _) | (with_reducible assumption) | (with_reducible refine Below.alloc ?_ ?_ _) | (with_reducible refine Below.drew ?_) | (with_reducible refine belowN ?_ _) | (with_reducible refine Below.setCell ?_ ?_ _) | (with_reducible refine belowG ?_ ?_) | (with_reducible refine le_sizeG ?_) | go_size | (simp [go_sem]; done))⟩
    · have h1' : (a == -9223372036854775808) = false := by simpa using h1
      clear ha h h1
      go_enter Tryz.func42, Tryz.ntmps42
      go_wp2
      go_returns
      exact ⟨by rw [hv.out, ← h'.out], by repeat' (first | (with_reducible exact Below.refl _ _) | (with_reducible assumption) | (with_reducible refine Below.alloc ?_ ?_ _) | (with_reducible refine Below.drew ?_) | (with_reducible refine belowN ?_ _) | (with_reducible refine Below.setCell ?_ ?_ _) | (with_reducible refine belowG ?_ ?_) | (with_reducible refine le_sizeG ?_) | go_size | (simp [go_sem]; done))⟩
end Go.Proofs.YtlekmpjmcbnjdaaGreatDoor

