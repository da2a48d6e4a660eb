/- Sets of numbers: what the program's calls answer. -/
import Derived.Test.YtniecghigmgbnaaDoorChecked
import Derived.Test.YtniecghigmgbnaaDoorQ0
import Derived.Test.YtniecghigmgbnaaDoorNum
import Derived.Test.YtniecghigmgbnaaDoorB0
import Derived.Test.YtniecghigmgbnaaDoorB2
import Derived.WalkKit
import Derived.ProofKit
import Derived.OpenShut
import Derived.Handy
import Derived.BigQuiet
import Derived.OwnWalk
import Derived.Lib.Hide
import Derived.Laws.Bits64b
import Derived.WalkLawsBesides
namespace Go.Proofs.YtniecghigmgbnaaDoor
open Go.RowKit
theorem bits_less (a b : Nat) (ha : a < 2 ^ 64) (hb : b < 2 ^ 64) : bits .andNot .u64 (a : Int) (b : Int) = ((lessS a b : Nat) : Int) := by
  have h1 : (BitVec.ofInt 64 (a : Int)).toNat = a := by
    rw [BitVec.ofInt_natCast, BitVec.toNat_ofNat]; exact Nat.mod_eq_of_lt ha
  have h2 : (BitVec.ofInt 64 (b : Int)).toNat = b := by
    rw [BitVec.ofInt_natCast, BitVec.toNat_ofNat]; exact Nat.mod_eq_of_lt hb
  have h3 : (BitVec.ofInt 64 (a : Int) &&& ~~~BitVec.ofInt 64 (b : Int)).toNat = lessS a b := by
    refine bits_eq (BitVec.isLt _) (lessS_lt b ha) fun k hk => ?_
    rw [lessS_bit, BitVec.testBit_toNat, BitVec.getLsbD_and, BitVec.getLsbD_not, ← BitVec.testBit_toNat, ← BitVec.testBit_toNat, h1, h2]
    simp [hk]
  show IntKind.u64.wrap ((BitVec.ofInt 64 (a : Int) &&& ~~~BitVec.ofInt 64 (b : Int)).toNat : Int) = _
  rw [h3, IntKind.wrap_u64]
  have := lessS_lt b ha
  omega
theorem shl_one (n : Int) (h : 0 ≤ n) : IntKind.u64.wrap (2 ^ min n.toNat 64) = ((oneS n : Nat) : Int) := by
  rw [IntKind.wrap_u64]
  have e : ((2 : Int) ^ min n.toNat 64) = ((2 ^ min n.toNat 64 : Nat) : Int) := by simp
  rw [e]
  unfold oneS
  by_cases hn : n < 64
  · rw [if_pos ⟨h, hn⟩, Nat.min_eq_left (by omega)]
    have h2 : 2 ^ n.toNat < 2 ^ 64 := Nat.pow_lt_pow_right (by omega) (by omega)
    generalize 2 ^ n.toNat = x at *
    omega
  · rw [if_neg (by omega), Nat.min_eq_right (by omega)]
    rfl
theorem one_any (n : Int) (w : World) : Calls Tryd.prog 25 #[.int .i64 n] w (RetW (.int .u64 ((oneS n : Nat) : Int)) w) := by
  by_cases h : n < 0
  · have e : oneS n = 0 := by unfold oneS; rw [if_neg (by omega)]
    rw [e]
    go_enter Tryd.func25, Tryd.ntmps25
    go_wp2
    go_returns
    exact ⟨rfl, rfl⟩
  · have e := shl_one n (by omega)
    go_enter Tryd.func25, Tryd.ntmps25
    go_wp2
    go_returns
    exact ⟨rfl, rfl⟩
theorem meet_any (s t : Nat) (hs : s < 2 ^ 64) (ht : t < 2 ^ 64) (w : World) : Calls Tryd.prog 16 #[.int .u64 (s : Int), .int .u64 (t : Int)] w (RetW (.int .u64 ((s &&& t : Nat) : Int)) w) := by
  have e := bits_and_u64_nat s t hs ht
  go_enter Tryd.func16, Tryd.ntmps16
  go_wp2
  go_returns
  exact ⟨rfl, rfl⟩
theorem lessS_any (s t : Nat) (hs : s < 2 ^ 64) (ht : t < 2 ^ 64) (w : World) : Calls Tryd.prog 17 #[.int .u64 (s : Int), .int .u64 (t : Int)] w (RetW (.int .u64 ((lessS s t : Nat) : Int)) w) := by
  have e := bits_less s t hs ht
  go_enter Tryd.func17, Tryd.ntmps17
  go_wp2
  go_returns
  exact ⟨rfl, rfl⟩
theorem in_any (s t : Nat) (hs : s < 2 ^ 64) (ht : t < 2 ^ 64) (w : World) : Calls Tryd.prog 18 #[.int .u64 (s : Int), .int .u64 (t : Int)] w (RetW (.bool (lessS s t == 0)) w) := by
  have e : (((lessS s t : Nat) : Int) == 0) = (lessS s t == 0) := by rw [Bool.eq_iff_iff]; simp
  go_enter Tryd.func18, Tryd.ntmps18
  go_wp2_with (first | ((with_reducible refine (lessS_any s t hs ht _).mono ?_); rintro e w1 ⟨rfl, rfl⟩))
  go_returns
  exact ⟨rfl, rfl⟩
theorem hasS_any (s : Nat) (hs : s < 2 ^ 64) (n : Int) (w : World) : Calls Tryd.prog 10 #[.int .u64 (s : Int), .int .i64 n] w (RetW (.bool (hasL (intsN (numsS s)) n)) w) := by
  have e : (((s &&& oneS n : Nat) : Int) != 0) = hasL (intsN (numsS s)) n := by
    have := meet_one s hs n
    cases h : hasL (intsN (numsS s)) n
    · simp [this.2 h]
    · rw [bne_iff_ne]
      intro h0
      rw [this.1 (by omega)] at h
      cases h
  go_enter Tryd.func10, Tryd.ntmps10
  go_wp2_with (first | ((with_reducible refine (one_any n _).mono ?_); rintro e w1 ⟨rfl, rfl⟩) | ((with_reducible refine (meet_any s (oneS n) hs (oneS_lt n) _).mono ?_); rintro e w1 ⟨rfl, rfl⟩))
  go_returns
  exact ⟨rfl, rfl⟩
/-! ### How many -/
theorem u64_and (s t : Nat) (hs : s < 2 ^ 64) (ht : t < 2 ^ 64) : bits .and .u64 (s : Int) (t : Int) = ((s &&& t : Nat) : Int) := bits_and_u64_nat s t hs ht
theorem rep85 : rep 85 8 = 6148914691236517205 := by decide
theorem rep51 : rep 51 8 = 3689348814741910323 := by decide
theorem rep15 : rep 15 8 = 1085102592571150095 := by decide
theorem two_lt (x : Nat) : twoN 8 x < 2 ^ 64 := by
  unfold twoN
  have h1 : x / 2 &&& rep 85 8 ≤ rep 85 8 := Nat.and_le_right
  have h2 : x &&& rep 85 8 ≤ rep 85 8 := Nat.and_le_right
  rw [rep85] at *
  omega
theorem four_lt (x : Nat) : fourN 8 x < 2 ^ 64 := by
  unfold fourN
  have h1 : x / 4 &&& rep 51 8 ≤ rep 51 8 := Nat.and_le_right
  have h2 : x &&& rep 51 8 ≤ rep 51 8 := Nat.and_le_right
  rw [rep51] at *
  omega
theorem i64_and127 (v : Nat) (h : v < 9223372036854775808) : bits .and .i64 (v : Int) 127 = ((v % 128 : Nat) : Int) := by
  have h1 : (BitVec.ofInt 64 (v : Int)).toNat = v := by
    rw [BitVec.ofInt_natCast, BitVec.toNat_ofNat]; exact Nat.mod_eq_of_lt (by omega)
  have h2 : (BitVec.ofInt 64 (127 : Int)).toNat = 127 := by decide
  show IntKind.i64.wrap ((BitVec.ofInt 64 (v : Int) &&& BitVec.ofInt 64 (127 : Int)).toNat : Int) = _
  rw [BitVec.toNat_and, h1, h2, show (127 : Nat) = 2 ^ 7 - 1 from rfl, Nat.and_two_pow_sub_one_eq_mod, IntKind.wrap_i64]
  omega
set_option maxHeartbeats 1000000 in
theorem ones_any (s : Nat) (hs : s < 2 ^ 64) (w : World) : Calls Tryd.prog 26 #[.int .u64 (s : Int)] w (RetW (.int .i64 (Lib.onesCount s : Int)) w) := by
  obtain ⟨hp, h4⟩ := eight_more 8 s
  have hf := four_lt (twoN 8 s)
  have ht := two_lt s
  have a1 : bits .and .u64 ((s : Int) / 2) 6148914691236517205 = ((s / 2 &&& rep 85 8 : Nat) : Int) := by rw [show ((s : Int) / 2) = ((s / 2 : Nat) : Int) by omega]; exact u64_and _ _ (by omega) (by decide)
  have a2 : bits .and .u64 (s : Int) 6148914691236517205 = ((s &&& rep 85 8 : Nat) : Int) := u64_and _ _ hs (by decide)
  have a3 : IntKind.u64.wrap (((s / 2 &&& rep 85 8 : Nat) : Int) + ((s &&& rep 85 8 : Nat) : Int)) = ((twoN 8 s : Nat) : Int) := by rw [IntKind.wrap_u64]; unfold twoN at *; omega
  generalize twoN 8 s = x at *
  have b1 : bits .and .u64 ((x : Int) / 4) 3689348814741910323 = ((x / 4 &&& rep 51 8 : Nat) : Int) := by rw [show ((x : Int) / 4) = ((x / 4 : Nat) : Int) by omega]; exact u64_and _ _ (by omega) (by decide)
  have b2 : bits .and .u64 (x : Int) 3689348814741910323 = ((x &&& rep 51 8 : Nat) : Int) := u64_and _ _ ht (by decide)
  have b3 : IntKind.u64.wrap (((x / 4 &&& rep 51 8 : Nat) : Int) + ((x &&& rep 51 8 : Nat) : Int)) = ((fourN 8 x : Nat) : Int) := by rw [IntKind.wrap_u64]; unfold fourN at *; omega
  have hy4 : fourN 8 x ≤ 7378697629483820646 := by
    unfold fourN
    have h1 : x / 4 &&& rep 51 8 ≤ rep 51 8 := Nat.and_le_right
    have h2 : x &&& rep 51 8 ≤ rep 51 8 := Nat.and_le_right
    rw [rep51] at *
    omega
  generalize fourN 8 x = y at *
  have c1 : IntKind.u64.wrap ((y : Int) / 16 + (y : Int)) = ((y / 16 + y : Nat) : Int) := by rw [IntKind.wrap_u64]; omega
  have c2 : bits .and .u64 ((y / 16 + y : Nat) : Int) 1085102592571150095 = ((pops 8 s : Nat) : Int) := by
    rw [← hp]
    exact u64_and _ _ (by omega) (by decide)
  obtain ⟨f1, f2, f3, f4, f5⟩ := pop_fold s (pops 8 s) _ _ _ rfl rfl rfl rfl
  have d1 : IntKind.u64.wrap ((pops 8 s : Int) + (pops 8 s : Int) / 256) = ((pops 8 s + pops 8 s / 256 : Nat) : Int) := by rw [IntKind.wrap_u64]; omega
  generalize pops 8 s = p at *
  generalize p + p / 256 = z at *
  have d2 : IntKind.u64.wrap ((z : Int) + (z : Int) / 65536) = ((z + z / 65536 : Nat) : Int) := by rw [IntKind.wrap_u64]; omega
  generalize z + z / 65536 = u at *
  have d3 : IntKind.u64.wrap ((u : Int) + (u : Int) / 4294967296) = ((u + u / 4294967296 : Nat) : Int) := by rw [IntKind.wrap_u64]; omega
  generalize u + u / 4294967296 = v at *
  have g1 : wrap64 (v : Int) = (v : Int) := by unfold wrap64; omega
  have g2 := i64_and127 v f5
  rw [f4] at g2
  generalize y / 16 + y = q at *
  generalize rep 85 8 = m1 at *
  generalize rep 51 8 = m2 at *
  clear hp h4 hf ht hy4 f1 f2 f3 f4 f5 hs
  go_enter Tryd.func26, Tryd.ntmps26
  go_wp2
  go_returns
  exact ⟨rfl, rfl⟩
theorem countS_any (s : Nat) (hs : s < 2 ^ 64) (w : World) : Calls Tryd.prog 12 #[.int .u64 (s : Int)] w (RetW (.int .i64 ((numsS s).length : Int)) w) := by
  rw [← ones_len]
  go_enter Tryd.func12, Tryd.ntmps12
  go_wp2_with (first | ((with_reducible refine (ones_any s hs _).mono ?_); rintro e w1 ⟨rfl, rfl⟩))
  go_returns
  exact ⟨rfl, rfl⟩
end Go.Proofs.YtniecghigmgbnaaDoor

