import Derived.Test.YtphdnfijefddlaaDoorQ0
import Derived.Test.YtphdnfijefddlaaDoorChecked
import Derived.Test.YtphdnfijefddlaaDoorG0
import Derived.Test.YtphdnfijefddlaaDoorNum
import Derived.WalkKit
import Derived.ProofKit
import Derived.OpenShut
import Derived.Handy
import Derived.BigQuiet
import Derived.Lib.Hide
import Derived.WalkLawsBesides
import Derived.Deep.DeepCutAuto
import Derived.Lib.ItoaNum
import Derived.Lib.Strings
namespace Go.Proofs.YtphdnfijefddlaaDoor
open Go.RowKit
theorem ret_str {a b : ByteArray} (h : a = b) : Ending.returned (.string a) = .returned (.string b) := by rw [h]
/-- A number in decimal digits. -/
def itoaS (n : Int) : ByteArray := ⟨(Lib.itoa n).toArray⟩
theorem itoaS_small {n : Int} (h0 : 0 ≤ n) (h1 : n < 10) : itoaS n = ⟨#[UInt8.ofNat (48 + n.toNat)]⟩ := by
  have h : ¬ n < 0 := by omega
  simp only [itoaS, Lib.itoa, h, if_false]
  rw [Lib.decDigits_one (by omega)]
theorem itoaS_neg {n : Int} (h0 : n < 0) : itoaS n = ⟨#[45]⟩ ++ itoaS (-n) := by
  have h : ¬ -n < 0 := by omega
  apply ByteArray.ext
  simp only [itoaS, Lib.itoa, h0, h, if_true, if_false, ByteArray.data_append]
  have e : n.natAbs = (-n).toNat := by omega
  rw [e]; simp
theorem itoaS_up {n : Int} (h0 : 10 ≤ n) : itoaS n = itoaS (n / 10) ++ itoaS (n % 10) := by
  have h : ¬ n < 0 := by omega
  have h1 : ¬ n / 10 < 0 := by omega
  apply ByteArray.ext
  rw [ByteArray.data_append, itoaS_small (n := n % 10) (by omega) (by omega)]
  simp only [itoaS, Lib.itoa, h, h1, if_false]
  rw [Lib.decDigits, dif_neg (by omega)]
  have e1 : n.toNat / 10 = (n / 10).toNat := by omega
  have e2 : n.toNat % 10 = (n % 10).toNat := by omega
  rw [e1, e2]; simp
theorem itoaS_down {n : Int} (h0 : n ≤ -10) : itoaS n = itoaS (n.tdiv 10) ++ itoaS (-(n.tmod 10)) := by
  have e1 : n.tdiv 10 = -((-n) / 10) := by
    have : n = -(-n) := by omega
    rw [this, Int.neg_tdiv, Int.tdiv_eq_ediv_of_nonneg (by omega), Int.neg_neg]
  have e2 : n.tmod 10 = -((-n) % 10) := by
    have : n = -(-n) := by omega
    rw [this, Int.neg_tmod, Int.tmod_eq_emod_of_nonneg (by omega), Int.neg_neg]
  rw [itoaS_neg (n := n) (by omega), itoaS_up (n := -n) (by omega), e1, e2, itoaS_neg (n := -((-n) / 10)) (by omega), Int.neg_neg, Int.neg_neg, ByteArray.append_assoc]
/-- One byte as a text. -/
theorem conv_one (W : World) (d : Int) : (convert 43 9 (.slice (some ⟨W.heap.size, 0, none⟩) 1 1)).run Tryd.prog (W.alloc (.cells #[.int .u8 d] 5)) =
    .ok (.string ⟨#[UInt8.ofNat d.toNat]⟩) (W.alloc (.cells #[.int .u8 d] 5)) := by
  rw [run_convert_bytes_string _ _ _ _ _ _ _ Tryd.underlying43 Tryd.underlying5 Tryd.underlying9]
  rw [run_bytesToString _ _ _ _ [d] (by simp [loadCells, go_sem])]
  rfl
set_option maxRecDepth 100000 in
theorem digits_small (n : Int) (h0 : 0 ≤ n) (h1 : n < 10) (w : World) : Calls Tryd.prog 52 #[.int .i64 n] w (Ret (.string (itoaS n)) w) := by
  have hs := Lib.hid (itoaS_small h0 h1)
  have hc : n = 0 ∨ n = 1 ∨ n = 2 ∨ n = 3 ∨ n = 4 ∨ n = 5 ∨ n = 6 ∨ n = 7 ∨ n = 8 ∨ n = 9 := by omega
  have hk := conv_one
  clear h0 h1
  rcases hc with rfl | rfl | rfl | rfl | rfl | rfl | rfl | rfl | rfl | rfl
  all_goals
    go_enter Tryd.func52, Tryd.ntmps52
    go_wp2
    go_returns
    exact ⟨by rw [hs.out]; rfl, by (first | exact gwT | exact lzT)⟩
theorem nDigits_le : ∀ (k u : Nat), u < 10 ^ (k + 1) → Lib.nDigits u ≤ k + 1
  | 0, u, h => by rw [Lib.nDigits_small (by simpa using h)]; omega
  | k + 1, u, h => by
    by_cases hu : u < 10
    · rw [Lib.nDigits_small hu]; omega
    · rw [Lib.nDigits_big hu]
      have : u / 10 < 10 ^ (k + 1) := by rw [Nat.div_lt_iff_lt_mul (by omega)]; rw [Nat.pow_succ] at h; exact h
      have := nDigits_le k (u / 10) this
      omega
theorem itoaS_size {n : Int} (h : I64 n) : (itoaS n).size ≤ 20 := by
  have hb : n.natAbs < 10 ^ (18 + 1) := by (unfold I64 at h; have : (10 : Nat) ^ (18 + 1) = 10000000000000000000 := (by decide); omega)
  have hl := nDigits_le 18 n.natAbs hb
  have e : (itoaS n).size = (Lib.itoa n).length := by simp [itoaS, ByteArray.size]
  rw [e]
  unfold Lib.itoa
  split
  · rw [List.length_cons, Lib.decDigits_length]; omega
  · rw [Lib.decDigits_length, show n.toNat = n.natAbs by omega]; omega
theorem tdiv10 (n : Int) (h : n ≤ -10) : n.tdiv 10 = -((-n) / 10) ∧ n.tmod 10 = -((-n) % 10) := by
  have e : n = -(-n) := by omega
  constructor
  · conv => lhs; rw [e]
    rw [Int.neg_tdiv, Int.tdiv_eq_ediv_of_nonneg (by omega)]
  · conv => lhs; rw [e]
    rw [Int.neg_tmod, Int.tmod_eq_emod_of_nonneg (by omega)]
set_option maxHeartbeats 1000000 in
theorem digits_any (k : Nat) : ∀ (n : Int) (w : World), n.natAbs ≤ k → I64 n → Calls Tryd.prog 52 #[.int .i64 n] w (Ret (.string (itoaS n)) w) := by
  induction k with
  | zero =>
    intro n w hk _
    obtain rfl : n = 0 := by omega
    exact digits_small 0 (by omega) (by omega) w
  | succ k ih =>
    intro n w hk hn
    by_cases h0 : 0 ≤ n
    · by_cases h1 : n < 10
      · exact digits_small n h0 h1 w
      · have e := Lib.hid (itoaS_up (n := n) (by omega))
        have z1 := itoaS_size (n := n / 10) (by unfold I64 at *; omega)
        have z2 := itoaS_size (n := n % 10) (by unfold I64 at *; omega)
        have c1 := fun wx => Lib.hid (ih (n / 10) wx (by omega) (by unfold I64 at *; omega))
        have c1 := Lib.hid c1
        have c2 := fun wx => Lib.hid (digits_small (n % 10) (by omega) (by omega) wx)
        have c2 := Lib.hid c2
        obtain ⟨n1, n2⟩ := hn
        clear ih hk
        generalize itoaS (n / 10) = s1 at *
        generalize itoaS (n % 10) = s2 at *
        generalize itoaS n = s at *
        go_enter Tryd.func52, Tryd.ntmps52
        go_wp2_with (first | ((with_reducible refine ((c1.out _).out).mono ?_); intro e w1 hr; obtain ⟨rfl, p, rfl⟩ := hr.out; clear hr) | ((with_reducible refine ((c2.out _).out).mono ?_); intro e w1 hr; obtain ⟨rfl, p, rfl⟩ := hr.out; clear hr))
        go_returns
        exact ⟨ret_str e.out.symm, by (first | exact gwT | exact lzT)⟩
    · by_cases h1 : n ≤ -10
      · have e := Lib.hid (itoaS_down h1)
        obtain ⟨t1, t2⟩ := tdiv10 n h1
        have b1 : I64 (n.tdiv 10) := by rw [t1]; unfold I64 at *; omega
        have b2 : 0 ≤ -(n.tmod 10) := by rw [t2]; omega
        have b3 : -(n.tmod 10) < 10 := by rw [t2]; omega
        have b4 : (n.tdiv 10).natAbs ≤ k := by rw [t1]; omega
        have z1 := itoaS_size b1
        have z2 := itoaS_size (n := -(n.tmod 10)) (by unfold I64; omega)
        have c1 := fun wx => Lib.hid (ih (n.tdiv 10) wx b4 b1)
        have c1 := Lib.hid c1
        have c2 := fun wx => Lib.hid (digits_small (-(n.tmod 10)) b2 b3 wx)
        have c2 := Lib.hid c2
        have b5 : -9 ≤ n.tmod 10 := by omega
        have b6 : n.tmod 10 ≤ 0 := by omega
        obtain ⟨n1, n2⟩ := hn
        obtain ⟨b7, b8⟩ := b1
        clear ih hk t1 t2 b2 b3 b4
        generalize itoaS (n.tdiv 10) = s1 at *
        generalize itoaS (-(n.tmod 10)) = s2 at *
        generalize itoaS n = s at *
        go_enter Tryd.func52, Tryd.ntmps52
        go_wp2_with (first | ((with_reducible refine ((c1.out _).out).mono ?_); intro e w1 hr; obtain ⟨rfl, p, rfl⟩ := hr.out; clear hr) | ((with_reducible refine ((c2.out _).out).mono ?_); intro e w1 hr; obtain ⟨rfl, p, rfl⟩ := hr.out; clear hr))
        go_returns
        exact ⟨ret_str e.out.symm, by (first | exact gwT | exact lzT)⟩
      · have e := Lib.hid (itoaS_neg (n := n) (by omega))
        have z1 := itoaS_size (n := -n) (by unfold I64 at *; omega)
        have c1 := fun wx => Lib.hid (digits_small (-n) (by omega) (by omega) wx)
        have c1 := Lib.hid c1
        obtain ⟨n1, n2⟩ := hn
        clear ih hk
        generalize itoaS (-n) = s1 at *
        generalize itoaS n = s at *
        go_enter Tryd.func52, Tryd.ntmps52
        go_wp2_with (first | ((with_reducible refine ((c1.out _).out).mono ?_); intro e w1 hr; obtain ⟨rfl, p, rfl⟩ := hr.out; clear hr))
        go_returns
        exact ⟨ret_str e.out.symm, by (first | exact gwT | exact lzT)⟩
end Go.Proofs.YtphdnfijefddlaaDoor

