/- Several texts of this proof, joined: DG, NU, SH. -/
import Derived.Test.YtmalnjmginmjkaaGreatDoorZ1
import Derived.WalkKit
import Derived.ProofKit
import Derived.OpenShut
import Derived.Handy
import Derived.BigQuiet
import Derived.Lib.Hide
import Derived.Deep.DeepCutAuto
import Derived.Lib.ItoaNum
import Derived.Lib.Strings
import Derived.WalkLawsBesides
import Derived.WalkSmall
import Derived.Test.YtmalnjmginmjkaaGreatDoorShelf
import Derived.Test.YtmalnjmginmjkaaGreatDoorZ3
import Derived.Lib.AppendIntMem
namespace Go.Proofs.YtmalnjmginmjkaaGreatDoor
open Go.RowKit
theorem ret_str {a b : ByteArray} (h : a = b) : Ending.returned (.string a) = .returned (.string b) := by rw [h]
/-- A number in decimal digits. -/
def itoaS (n : Int) : ByteArray := ⟨(Lib.itoa n).toArray⟩
theorem itoaS_small {n : Int} (h0 : 0 ≤ n) (h1 : n < 10) : itoaS n = ⟨#[UInt8.ofNat (48 + n.toNat)]⟩ := by
  have h : ¬ n < 0 := by omega
  simp only [itoaS, Lib.itoa, h, if_false]
  rw [Lib.decDigits_one (by omega)]
theorem itoaS_neg {n : Int} (h0 : n < 0) : itoaS n = ⟨#[45]⟩ ++ itoaS (-n) := by
  have h : ¬ -n < 0 := by omega
  apply ByteArray.ext
  simp only [itoaS, Lib.itoa, h0, h, if_true, if_false, ByteArray.data_append]
  have e : n.natAbs = (-n).toNat := by omega
  rw [e]; simp
theorem itoaS_up {n : Int} (h0 : 10 ≤ n) : itoaS n = itoaS (n / 10) ++ itoaS (n % 10) := by
  have h : ¬ n < 0 := by omega
  have h1 : ¬ n / 10 < 0 := by omega
  apply ByteArray.ext
  rw [ByteArray.data_append, itoaS_small (n := n % 10) (by omega) (by omega)]
  simp only [itoaS, Lib.itoa, h, h1, if_false]
  rw [Lib.decDigits, dif_neg (by omega)]
  have e1 : n.toNat / 10 = (n / 10).toNat := by omega
  have e2 : n.toNat % 10 = (n % 10).toNat := by omega
  rw [e1, e2]; simp
theorem itoaS_down {n : Int} (h0 : n ≤ -10) : itoaS n = itoaS (n.tdiv 10) ++ itoaS (-(n.tmod 10)) := by
  have e1 : n.tdiv 10 = -((-n) / 10) := by
    have : n = -(-n) := by omega
    rw [this, Int.neg_tdiv, Int.tdiv_eq_ediv_of_nonneg (by omega), Int.neg_neg]
  have e2 : n.tmod 10 = -((-n) % 10) := by
    have : n = -(-n) := by omega
    rw [this, Int.neg_tmod, Int.tmod_eq_emod_of_nonneg (by omega), Int.neg_neg]
  rw [itoaS_neg (n := n) (by omega), itoaS_up (n := -n) (by omega), e1, e2, itoaS_neg (n := -((-n) / 10)) (by omega), Int.neg_neg, Int.neg_neg, ByteArray.append_assoc]
/-- One byte as a text. -/
theorem conv_one (W : World) (d : Int) : (convert 93 9 (.slice (some ⟨W.heap.size, 0, none⟩) 1 1)).run Tryz.prog (W.alloc (.cells #[.int .u8 d] 5)) =
    .ok (.string ⟨#[UInt8.ofNat d.toNat]⟩) (W.alloc (.cells #[.int .u8 d] 5)) := by
  rw [run_convert_bytes_string _ _ _ _ _ _ _ Tryz.underlying93 Tryz.underlying5 Tryz.underlying9]
  rw [run_bytesToString _ _ _ _ [d] (by simp [loadCells, go_sem])]
  rfl
set_option maxRecDepth 100000 in
theorem digits_small (n : Int) (h0 : 0 ≤ n) (h1 : n < 10) (w : World) : Calls Tryz.prog 95 #[.int .i64 n] w (Ret (.string (itoaS n)) w) := by
  have hs := Lib.hid (itoaS_small h0 h1)
  have hc : n = 0 ∨ n = 1 ∨ n = 2 ∨ n = 3 ∨ n = 4 ∨ n = 5 ∨ n = 6 ∨ n = 7 ∨ n = 8 ∨ n = 9 := by omega
  have hk := conv_one
  clear h0 h1
  rcases hc with rfl | rfl | rfl | rfl | rfl | rfl | rfl | rfl | rfl | rfl
  all_goals
    go_enter Tryz.func95, Tryz.ntmps95
    go_wp2
    go_returns
    exact ⟨by rw [hs.out]; rfl, by repeat' (first | (with_reducible exact Below.refl _ _) | (with_reducible assumption) | (with_reducible refine Below.alloc ?_ ?_ _) | (with_reducible refine Below.drew ?_) | (with_reducible refine belowN ?_ _) | (with_reducible refine Below.setCell ?_ ?_ _) | (with_reducible refine belowG ?_ ?_) | (with_reducible exact Nat.le_refl _) | (with_reducible refine le_sizeG ?_) | (with_reducible refine le_sizeA ?_) | (with_reducible refine le_sizeC ?_) | (with_reducible refine le_sizeD ?_) | (with_reducible refine le_sizeN ?_) | go_size | (simp [go_sem]; done))⟩
theorem nDigits_le : ∀ (k u : Nat), u < 10 ^ (k + 1) → Lib.nDigits u ≤ k + 1
  | 0, u, h => by rw [Lib.nDigits_small (by simpa using h)]; omega
  | k + 1, u, h => by
    by_cases hu : u < 10
    · rw [Lib.nDigits_small hu]; omega
    · rw [Lib.nDigits_big hu]
      have : u / 10 < 10 ^ (k + 1) := by rw [Nat.div_lt_iff_lt_mul (by omega)]; rw [Nat.pow_succ] at h; exact h
      have := nDigits_le k (u / 10) this
      omega
theorem itoaS_size {n : Int} (h : I64 n) : (itoaS n).size ≤ 20 := by
  have hb : n.natAbs < 10 ^ (18 + 1) := by unfold I64 at h; have : (10 : Nat) ^ (18 + 1) = 10000000000000000000 := by decide
                                           omega
  have hl := nDigits_le 18 n.natAbs hb
  have e : (itoaS n).size = (Lib.itoa n).length := by simp [itoaS, ByteArray.size]
  rw [e]
  unfold Lib.itoa
  split
  · rw [List.length_cons, Lib.decDigits_length]; omega
  · rw [Lib.decDigits_length, show n.toNat = n.natAbs by omega]; omega
theorem tdiv10 (n : Int) (h : n ≤ -10) : n.tdiv 10 = -((-n) / 10) ∧ n.tmod 10 = -((-n) % 10) := by
  have e : n = -(-n) := by omega
  constructor
  · conv => lhs; rw [e]
    rw [Int.neg_tdiv, Int.tdiv_eq_ediv_of_nonneg (by omega)]
  · conv => lhs; rw [e]
    rw [Int.neg_tmod, Int.tmod_eq_emod_of_nonneg (by omega)]
set_option maxHeartbeats 1000000 in
theorem digits_any (k : Nat) : ∀ (n : Int) (w : World), n.natAbs ≤ k → I64 n → Calls Tryz.prog 95 #[.int .i64 n] w (Ret (.string (itoaS n)) w) := by
  induction k with
  | zero =>
    intro n w hk _
    obtain rfl : n = 0 := by omega
    exact digits_small 0 (by omega) (by omega) w
  | succ k ih =>
    intro n w hk hn
    by_cases h0 : 0 ≤ n
    · by_cases h1 : n < 10
      · exact digits_small n h0 h1 w
      · have e := Lib.hid (itoaS_up (n := n) (by omega))
        have z1 := itoaS_size (n := n / 10) (by unfold I64 at *; omega)
        have z2 := itoaS_size (n := n % 10) (by unfold I64 at *; omega)
        have c1 := fun wx => Lib.hid (ih (n / 10) wx (by omega) (by unfold I64 at *; omega))
        have c1 := Lib.hid c1
        have c2 := fun wx => Lib.hid (digits_small (n % 10) (by omega) (by omega) wx)
        have c2 := Lib.hid c2
        obtain ⟨n1, n2⟩ := hn
        clear ih hk
        generalize itoaS (n / 10) = s1 at *
        generalize itoaS (n % 10) = s2 at *
        generalize itoaS n = s at *
        go_enter Tryz.func95, Tryz.ntmps95
        go_wp2_with (first | ((with_reducible refine ((c1.out _).out).mono ?_); intro e w1 hr; obtain ⟨rfl, p, rfl⟩ := hr.out; clear hr) | ((with_reducible refine ((c2.out _).out).mono ?_); intro e w1 hr; obtain ⟨rfl, p, rfl⟩ := hr.out; clear hr))
        go_returns
        exact ⟨ret_str e.out.symm, by repeat' (first | (with_reducible exact Below.refl _ _) | (with_reducible assumption) | (with_reducible refine Below.alloc ?_ ?_ _) | (with_reducible refine Below.drew ?_) | (with_reducible refine belowN ?_ _) | (with_reducible refine Below.setCell ?_ ?_ _) | (with_reducible refine belowG ?_ ?_) | (with_reducible exact Nat.le_refl _) | (with_reducible refine le_sizeG ?_) | (with_reducible refine le_sizeA ?_) | (with_reducible refine le_sizeC ?_) | (with_reducible refine le_sizeD ?_) | (with_reducible refine le_sizeN ?_) | go_size | (simp [go_sem]; done))⟩
    · by_cases h1 : n ≤ -10
      · have e := Lib.hid (itoaS_down h1)
        obtain ⟨t1, t2⟩ := tdiv10 n h1
        have b1 : I64 (n.tdiv 10) := by rw [t1]; unfold I64 at *; omega
        have b2 : 0 ≤ -(n.tmod 10) := by rw [t2]; omega
        have b3 : -(n.tmod 10) < 10 := by rw [t2]; omega
        have b4 : (n.tdiv 10).natAbs ≤ k := by rw [t1]; omega
        have z1 := itoaS_size b1
        have z2 := itoaS_size (n := -(n.tmod 10)) (by unfold I64; omega)
        have c1 := fun wx => Lib.hid (ih (n.tdiv 10) wx b4 b1)
        have c1 := Lib.hid c1
        have c2 := fun wx => Lib.hid (digits_small (-(n.tmod 10)) b2 b3 wx)
        have c2 := Lib.hid c2
        have b5 : -9 ≤ n.tmod 10 := by omega
        have b6 : n.tmod 10 ≤ 0 := by omega
        obtain ⟨n1, n2⟩ := hn
        obtain ⟨b7, b8⟩ := b1
        clear ih hk t1 t2 b2 b3 b4
        generalize itoaS (n.tdiv 10) = s1 at *
        generalize itoaS (-(n.tmod 10)) = s2 at *
        generalize itoaS n = s at *
        go_enter Tryz.func95, Tryz.ntmps95
        go_wp2_with (first | ((with_reducible refine ((c1.out _).out).mono ?_); intro e w1 hr; obtain ⟨rfl, p, rfl⟩ := hr.out; clear hr) | ((with_reducible refine ((c2.out _).out).mono ?_); intro e w1 hr; obtain ⟨rfl, p, rfl⟩ := hr.out; clear hr))
        go_returns
        exact ⟨ret_str e.out.symm, by repeat' (first | (with_reducible exact Below.refl _ _) | (with_reducible assumption) | (with_reducible refine Below.alloc ?_ ?_ _) | (with_reducible refine Below.drew ?_) | (with_reducible refine belowN ?_ _) | (with_reducible refine Below.setCell ?_ ?_ _) | (with_reducible refine belowG ?_ ?_) | (with_reducible exact Nat.le_refl _) | (with_reducible refine le_sizeG ?_) | (with_reducible refine le_sizeA ?_) | (with_reducible refine le_sizeC ?_) | (with_reducible refine le_sizeD ?_) | (with_reducible refine le_sizeN ?_) | go_size | (simp [go_sem]; done))⟩
      · have e := Lib.hid (itoaS_neg (n := n) (by omega))
        have z1 := itoaS_size (n := -n) (by unfold I64 at *; omega)
        have c1 := fun wx => Lib.hid (digits_small (-n) (by omega) (by omega) wx)
        have c1 := Lib.hid c1
        obtain ⟨n1, n2⟩ := hn
        clear ih hk
        generalize itoaS (-n) = s1 at *
        generalize itoaS n = s at *
        go_enter Tryz.func95, Tryz.ntmps95
        go_wp2_with (first | ((with_reducible refine ((c1.out _).out).mono ?_); intro e w1 hr; obtain ⟨rfl, p, rfl⟩ := hr.out; clear hr))
        go_returns
        exact ⟨ret_str e.out.symm, by repeat' (first | (with_reducible exact Below.refl _ _) | (with_reducible assumption) | (with_reducible refine Below.alloc ?_ ?_ _) | (with_reducible refine Below.drew ?_) | (with_reducible refine belowN ?_ _) | (with_reducible refine Below.setCell ?_ ?_ _) | (with_reducible refine belowG ?_ ?_) | (with_reducible exact Nat.le_refl _) | (with_reducible refine le_sizeG ?_) | (with_reducible refine le_sizeA ?_) | (with_reducible refine le_sizeC ?_) | (with_reducible refine le_sizeD ?_) | (with_reducible refine le_sizeN ?_) | go_size | (simp [go_sem]; done))⟩
end Go.Proofs.YtmalnjmginmjkaaGreatDoor
namespace Go.Proofs.YtmalnjmginmjkaaGreatDoor
open Go.RowKit
/-- Minus the number that some digits make behind v; none: a byte that is no digit, or too great. -/
def negV : List UInt8 → Int → Option Int
  | [], v => some v
  | c :: r, v => if (c.toNat : Int) < 48 ∨ 57 < (c.toNat : Int) then none else if v < (-9223372036854775808 + ((c.toNat : Int) - 48)).tdiv 10 then none else negV r (10 * v - ((c.toNat : Int) - 48))
theorem negV_append : ∀ (l r : List UInt8) (v x : Int), negV l v = some x → negV (l ++ r) v = negV r x
  | [], r, v, x, h => by
    simp only [negV, Option.some.injEq] at h
    rw [h]; rfl
  | c :: l, r, v, x, h => by
    rw [List.cons_append]
    rw [negV] at h
    rw [negV]
    by_cases h1 : (c.toNat : Int) < 48 ∨ 57 < (c.toNat : Int)
    · rw [if_pos h1] at h; cases h
    · rw [if_neg h1] at h ⊢
      by_cases h2 : v < (-9223372036854775808 + ((c.toNat : Int) - 48)).tdiv 10
      · rw [if_pos h2] at h; cases h
      · rw [if_neg h2] at h ⊢
        exact negV_append l r _ x h
theorem guard_eq (d : Int) (h0 : 0 ≤ d) (h1 : d ≤ 9) : (-9223372036854775808 + d).tdiv 10 = -((9223372036854775808 - d) / 10) := by
  rw [show -9223372036854775808 + d = -(9223372036854775808 - d) by omega, Int.neg_tdiv, Int.tdiv_eq_ediv_of_nonneg (by omega)]
theorem negV_one (q d : Nat) (hd : d < 10) (h : q * 10 + d ≤ 9223372036854775808) : negV [UInt8.ofNat (48 + d)] (-(q : Int)) = some (-((q * 10 + d : Nat) : Int)) := by
  have hc : (UInt8.ofNat (48 + d)).toNat = 48 + d := by
    rw [UInt8.toNat_ofNat']; exact Nat.mod_eq_of_lt (by omega)
  have e : ((48 + d : Nat) : Int) - 48 = (d : Int) := by omega
  rw [negV, hc, if_neg (by omega), e, guard_eq _ (by omega) (by omega), if_neg (by omega), negV]
  congr 1; omega
theorem negV_digits (u : Nat) (h : u ≤ 9223372036854775808) : negV (Lib.decDigits u) 0 = some (-(u : Int)) := by
  induction u using Nat.strongRecOn with
  | _ u ih =>
    by_cases hu : u < 10
    · rw [Lib.decDigits, dif_pos hu]
      have := negV_one 0 u hu (by omega)
      simpa using this
    · rw [Lib.decDigits, dif_neg hu, negV_append _ _ _ _ (ih (u / 10) (by omega) (by omega)), negV_one _ _ (by omega) (by omega)]
      congr 2; omega
theorem drop_at (t : ByteArray) (k : Nat) (h : k < t.size) : t.data.toList.drop k = t[k] :: t.data.toList.drop (k + 1) := by
  rw [List.drop_eq_getElem_cons (by rw [← Lib.size_eq]; exact h)]
  rfl
theorem negV_bad {c : UInt8} {r : List UInt8} {x : Int} (h : (c.toNat : Int) < 48 ∨ 57 < (c.toNat : Int)) : negV (c :: r) x = none := by rw [negV, if_pos h]
theorem negV_over {c : UInt8} {r : List UInt8} {x : Int} (h : 48 ≤ (c.toNat : Int) ∧ (c.toNat : Int) ≤ 57) (h2 : x < (-9223372036854775808 + ((c.toNat : Int) - 48)).tdiv 10) : negV (c :: r) x = none := by
  rw [negV, if_neg (by omega), if_pos h2]
theorem negV_go {c : UInt8} {r : List UInt8} {x : Int} (h : 48 ≤ (c.toNat : Int) ∧ (c.toNat : Int) ≤ 57) (h2 : (-9223372036854775808 + ((c.toNat : Int) - 48)).tdiv 10 ≤ x) : negV (c :: r) x = negV r (10 * x - ((c.toNat : Int) - 48)) := by
  rw [negV, if_neg (by omega), if_neg (by omega)]
theorem negV_wrap {d x : Int} (h : 48 ≤ d ∧ d ≤ 57) (h2 : (-9223372036854775808 + (d - 48)).tdiv 10 ≤ x) (h3 : x ≤ 0) : wrap64 (wrap64 (10 * x) - (d - 48)) = 10 * x - (d - 48) ∧ -9223372036854775808 ≤ 10 * x - (d - 48) := by
  rw [guard_eq _ (by omega) (by omega)] at h2
  have h4 : -9223372036854775808 ≤ 10 * x - (d - 48) := by omega
  rw [wrap_of (10 * x) (by unfold I64; omega), wrap_of _ (by unfold I64; omega)]
  exact ⟨rfl, h4⟩
theorem of_lists {a b : ByteArray} (h : (a.toList == b.toList) = true) : a = b := by
  rw [Lib.toList_data, Lib.toList_data, beq_iff_eq] at h
  exact ByteArray.ext (Array.ext' h)
/-- What the reference's Number says of s: a number with that very numeral, if there is one. -/
def NumIs (s : ByteArray) (w : World) (e : Ending) (w' : World) : Prop := ∃ v b, e = .returned (.tuple #[.int .i64 v, .bool b]) ∧ I64 v ∧ (b = true → itoaS v = s) ∧ (b = false → ∀ n, I64 n → s ≠ itoaS n) ∧ Below w.heap.size w w'
set_option maxHeartbeats 2000000 in
theorem number_pos (s : ByteArray) (hs : s.size ≤ 9223372036854775000) (hne : 0 < s.size → (((s.data.toList.getD 0 0).toNat : Int) == 45) = false)
    (C : ∀ n, I64 n → s = itoaS n → 1 ≤ s.size ∧ s.size ≤ 19 ∧ negV s.data.toList 0 = some (-n) ∧ 0 ≤ n) (w : World) : Calls Tryz.prog 64 #[.string s] w (NumIs s w) := by
  have D := fun n wx hn => Lib.hid (digits_any n.natAbs n wx (Nat.le_refl _) hn)
  have D := Lib.hid D
  have C := Lib.hid C
  have hq : ∀ h : 0 < s.size, ((s[0].toNat : Int) == 45) = false := fun h => by
    have := hne h
    have e : s.data.toList.getD 0 0 = s[0] := by
      rw [List.getD_eq_getElem?_getD, List.getElem?_eq_getElem (by rw [← Lib.size_eq]; exact h)]
      rfl
    rw [e] at this; exact this
  clear hne
  have z0 : (0 : Int) = 0 → I64 0 := fun _ => by unfold I64; omega
  by_cases hb : s.size = 0 ∨ 19 < s.size
  · have hno : ∀ n, I64 n → s ≠ itoaS n := fun n h1 h2 => by
      have := C.out n h1 h2
      omega
    clear C D z0
    rcases hb with hb | hb
    · go_enter Tryz.func64, Tryz.ntmps64
      go_wp2
      go_returns
      exact ⟨0, false, rfl, by unfold I64; omega, (fun h => by cases h), fun _ => hno, Below.refl _ _⟩
    · have e0 : ((s.size : Int) == 0) = false := by rw [beq_eq_false_iff_ne]; omega
      have e1 : (19 < (s.size : Int)) := by omega
      go_enter Tryz.func64, Tryz.ntmps64
      go_wp2
      go_returns
      exact ⟨0, false, rfl, by unfold I64; omega, (fun h => by cases h), fun _ => hno, Below.refl _ _⟩
  · have hb1 : 1 ≤ s.size := by omega
    have hb2 : s.size ≤ 19 := by omega
    have e0 : ((s.size : Int) == 0) = false := by rw [beq_eq_false_iff_ne]; omega
    have e1 : ¬ (19 < (s.size : Int)) := by omega
    have e2 := hq (by omega)
    clear hq
    go_enter Tryz.func64, Tryz.ntmps64
    go_wp2
    go_loop [5, 6] (fun v i => ∃ (k : Nat) (x : Int), k ≤ s.size ∧ i = .int .i64 k ∧ v = .int .i64 x ∧ -9223372036854775808 ≤ x ∧ x ≤ 0 ∧ negV (s.data.toList.drop k) x = negV s.data.toList 0) (fun v i => s.size - (intOf i).toNat)
    case atStart => exact ⟨0, 0, Nat.zero_le _, rfl, rfl, by omega, by omega, rfl⟩
    case round =>
      obtain ⟨k, x, hk, rfl, rfl, hx1, hx2, hv⟩ := hrel
      by_cases hlt : k < s.size
      · have hd := Lib.hid (drop_at s k hlt)
        have hv := Lib.hid hv
        have hno : negV s.data.toList 0 = none → ∀ n, I64 n → s ≠ itoaS n := fun h n h1 h2 => by
          have := (C.out n h1 h2).2.2.1
          rw [h] at this; cases this
        have hno := Lib.hid hno
        have hdv : negV (s[k] :: s.data.toList.drop (k + 1)) x = negV s.data.toList 0 := by rw [← hd.out, hv.out]
        have hdv := Lib.hid hdv
        clear hd hv
        go_wp2
        all_goals first
          | (have hw := negV_wrap (x := x) (d := (s[k].toNat : Int)) (by assumption) (by assumption) hx2
             refine ⟨⟨k + 1, 10 * x - ((s[k].toNat : Int) - 48), by omega, rfl, by rw [hw.1], hw.2, by omega, ?_⟩, by simp [intOf]; omega⟩
             rw [← hdv.out]; exact (negV_go (by assumption) (by assumption)).symm)
          | (go_returns
             refine ⟨0, false, rfl, by unfold I64; omega, (fun h => by cases h), fun _ => hno.out ?_, Below.refl _ _⟩
             rw [← hdv.out]
             first | exact negV_bad (by assumption) | exact negV_bad (Or.inl (by assumption)) | exact negV_over (by assumption) (by assumption))
      · obtain rfl : k = s.size := by omega
        have hv : negV s.data.toList 0 = some x := by
          rw [← hv, List.drop_of_length_le (by rw [← Lib.size_eq]; exact Nat.le_refl _)]
          rfl
        have hn : ∀ n, I64 n → s = itoaS n → -n = x ∧ 0 ≤ n := fun n h1 h2 => by
          have := C.out n h1 h2
          rw [hv] at this
          exact ⟨(Option.some.inj this.2.2.1).symm, this.2.2.2⟩
        have hn := Lib.hid hn
        clear hv
        by_cases hm : x = -9223372036854775808
        · subst hm
          go_wp2
          go_returns
          refine ⟨0, false, rfl, by unfold I64; omega, (fun h => by cases h), fun _ n h1 h2 => ?_, Below.refl _ _⟩
          have := hn.out n h1 h2
          unfold I64 at h1; omega
        · have hm' : (x == -9223372036854775808) = false := by rw [beq_eq_false_iff_ne]; exact hm
          have hi : I64 (-x) := by unfold I64; omega
          have hw : wrap64 (-x) = -x := wrap_of _ hi
          have D' := fun wx => Lib.hid (D.out (-x) wx hi)
          have D' := Lib.hid D'
          generalize hy : itoaS (-x) = y at D'
          have hy := Lib.hid hy
          have hn := Lib.hid hn
          go_wp2_with fail
          refine ((D'.out _).out).mono ?_
          intro e w1 hr
          obtain ⟨rfl, p, rfl⟩ := hr.out
          clear hr
          go_wp2
          go_returns
          refine ⟨-x, (y.toList == s.toList), rfl, hi, fun h => ?_, fun h n h1 h2 => ?_, by repeat' (first | (with_reducible exact Below.refl _ _) | (with_reducible assumption) | (with_reducible refine Below.alloc ?_ ?_ _) | (with_reducible refine Below.drew ?_) | (with_reducible refine belowN ?_ _) | (with_reducible refine Below.setCell ?_ ?_ _) | (with_reducible refine belowG ?_ ?_) | (with_reducible exact Nat.le_refl _) | (with_reducible refine le_sizeG ?_) | (with_reducible refine le_sizeA ?_) | (with_reducible refine le_sizeC ?_) | (with_reducible refine le_sizeD ?_) | (with_reducible refine le_sizeN ?_) | go_size | (simp [go_sem]; done))⟩
          · rw [hy.out]; exact of_lists h
          · have hz := (hn.out.out n h1 h2).1
            have e : -x = n := by omega
            rw [← hy.out, e, ← h2] at h
            simp at h
set_option maxHeartbeats 2000000 in
theorem number_neg (s : ByteArray) (hs : s.size ≤ 9223372036854775000) (h0 : 0 < s.size) (hc : ((s[0].toNat : Int) == 45) = true)
    (C : ∀ n, I64 n → s = itoaS n → 2 ≤ s.size ∧ s.size ≤ 20 ∧ negV (s.data.toList.drop 1) 0 = some n) (w : World) : Calls Tryz.prog 64 #[.string s] w (NumIs s w) := by
  have D := fun n wx hn => Lib.hid (digits_any n.natAbs n wx (Nat.le_refl _) hn)
  have D := Lib.hid D
  have C := Lib.hid C
  by_cases hb : s.size = 1 ∨ 20 < s.size
  · have hno : ∀ n, I64 n → s ≠ itoaS n := fun n h1 h2 => by
      have := C.out n h1 h2
      omega
    clear C D
    rcases hb with hb | hb
    · have e0 : (((s.size - 1 : Nat) : Int) == 0) = true := by rw [beq_iff_eq]; omega
      go_enter Tryz.func64, Tryz.ntmps64
      go_wp2
      go_returns
      exact ⟨0, false, rfl, by unfold I64; omega, (fun h => by cases h), fun _ => hno, Below.refl _ _⟩
    · have e0 : (((s.size - 1 : Nat) : Int) == 0) = false := by rw [beq_eq_false_iff_ne]; omega
      have e1 : (19 < ((s.size - 1 : Nat) : Int)) := by omega
      go_enter Tryz.func64, Tryz.ntmps64
      go_wp2
      go_returns
      exact ⟨0, false, rfl, by unfold I64; omega, (fun h => by cases h), fun _ => hno, Below.refl _ _⟩
  · have hb1 : 2 ≤ s.size := by omega
    have hb2 : s.size ≤ 20 := by omega
    have e0 : (((s.size - 1 : Nat) : Int) == 0) = false := by rw [beq_eq_false_iff_ne]; omega
    have e1 : ¬ (19 < ((s.size - 1 : Nat) : Int)) := by omega
    have e3 : (((s.size - 1 : Nat) : Int) == (s.size : Int)) = false := by rw [beq_eq_false_iff_ne]; omega
    go_enter Tryz.func64, Tryz.ntmps64
    go_wp2
    go_loop [5, 6] (fun v i => ∃ (k : Nat) (x : Int), k ≤ s.size - 1 ∧ i = .int .i64 k ∧ v = .int .i64 x ∧ -9223372036854775808 ≤ x ∧ x ≤ 0 ∧ negV (s.data.toList.drop (1 + k)) x = negV (s.data.toList.drop 1) 0) (fun v i => s.size - (intOf i).toNat)
    case atStart => exact ⟨0, 0, Nat.zero_le _, rfl, rfl, by omega, by omega, rfl⟩
    case round =>
      obtain ⟨k, x, hk, rfl, rfl, hx1, hx2, hv⟩ := hrel
      by_cases hlt : k < s.size - 1
      · have hlt' : 1 + k < s.size := by omega
        have hd := Lib.hid (drop_at s (1 + k) hlt')
        have hv := Lib.hid hv
        have hno : negV (s.data.toList.drop 1) 0 = none → ∀ n, I64 n → s ≠ itoaS n := fun h n h1 h2 => by
          have := (C.out n h1 h2).2.2
          rw [h] at this; cases this
        have hno := Lib.hid hno
        have hdv : negV (s[1 + k] :: s.data.toList.drop (1 + k + 1)) x = negV (s.data.toList.drop 1) 0 := by rw [← hd.out, hv.out]
        have hdv := Lib.hid hdv
        clear hd hv
        have hsz : k < (s.extract 1 s.size).size := by rw [ByteArray.size_extract]; omega
        have he : (s.extract 1 s.size)[k] = s[1 + k] := ByteArray.getElem_extract ..
        go_wp2
        all_goals first
          | (have hw := negV_wrap (x := x) (d := (s[1 + k].toNat : Int)) (by assumption) (by assumption) hx2
             refine ⟨⟨k + 1, 10 * x - ((s[1 + k].toNat : Int) - 48), by omega, rfl, by rw [hw.1], hw.2, by omega, ?_⟩, by simp [intOf]; omega⟩
             rw [← hdv.out]; exact (negV_go (by assumption) (by assumption)).symm)
          | (go_returns
             refine ⟨0, false, rfl, by unfold I64; omega, (fun h => by cases h), fun _ => hno.out ?_, Below.refl _ _⟩
             rw [← hdv.out]
             first | exact negV_bad (by assumption) | exact negV_bad (Or.inl (by assumption)) | exact negV_over (by assumption) (by assumption))
      · obtain rfl : k = s.size - 1 := by omega
        have hv : negV (s.data.toList.drop 1) 0 = some x := by
          rw [← hv, List.drop_of_length_le (by rw [← Lib.size_eq]; omega)]
          rfl
        have hn : ∀ n, I64 n → s = itoaS n → n = x := fun n h1 h2 => by
          have := C.out n h1 h2
          rw [hv] at this
          exact (Option.some.inj this.2.2).symm
        have hn := Lib.hid hn
        clear hv
        have hi : I64 x := by unfold I64; omega
        have D' := fun wx => Lib.hid (D.out x wx hi)
        have D' := Lib.hid D'
        generalize hy : itoaS x = y at D'
        have hy := Lib.hid hy
        have hn := Lib.hid hn
        go_wp2_with fail
        refine ((D'.out _).out).mono ?_
        intro e w1 hr
        obtain ⟨rfl, p, rfl⟩ := hr.out
        clear hr
        go_wp2
        go_returns
        refine ⟨x, (y.toList == s.toList), rfl, hi, fun h => ?_, fun h n h1 h2 => ?_, by repeat' (first | (with_reducible exact Below.refl _ _) | (with_reducible assumption) | (with_reducible refine Below.alloc ?_ ?_ _) | (with_reducible refine Below.drew ?_) | (with_reducible refine belowN ?_ _) | (with_reducible refine Below.setCell ?_ ?_ _) | (with_reducible refine belowG ?_ ?_) | (with_reducible exact Nat.le_refl _) | (with_reducible refine le_sizeG ?_) | (with_reducible refine le_sizeA ?_) | (with_reducible refine le_sizeC ?_) | (with_reducible refine le_sizeD ?_) | (with_reducible refine le_sizeN ?_) | go_size | (simp [go_sem]; done))⟩
        · rw [hy.out]; exact of_lists h
        · have e := hn.out.out n h1 h2
          rw [← hy.out, ← e, ← h2] at h
          simp at h
theorem dd_len (u : Nat) (h : u ≤ 9223372036854775808) : 1 ≤ (Lib.decDigits u).length ∧ (Lib.decDigits u).length ≤ 19 := by
  have hb : u < 10 ^ (18 + 1) := by have : (10 : Nat) ^ (18 + 1) = 10000000000000000000 := by decide
                                    omega
  have hl := nDigits_le 18 u hb
  have hp := Lib.nDigits_pos u
  rw [Lib.decDigits_eq]
  simp only [List.length_map, List.length_range]
  omega
theorem number_any (s : ByteArray) (hs : s.size ≤ 9223372036854775000) (w : World) : Calls Tryz.prog 64 #[.string s] w (NumIs s w) := by
  by_cases hc : ∃ h : 0 < s.size, ((s[0].toNat : Int) == 45) = true
  · obtain ⟨h0, hc⟩ := hc
    refine number_neg s hs h0 hc (fun n hn he => ?_) w
    by_cases hneg : n < 0
    · have e : Lib.itoa n = 45 :: Lib.decDigits n.natAbs := by rw [Lib.itoa, if_pos hneg]
      have hl := dd_len n.natAbs (by unfold I64 at hn; omega)
      have hd := negV_digits n.natAbs (by unfold I64 at hn; omega)
      have e2 : s.data.toList = 45 :: Lib.decDigits n.natAbs := by rw [he, itoaS, e]
      have e3 : s.size = (Lib.decDigits n.natAbs).length + 1 := by rw [Lib.size_eq, e2]; rfl
      refine ⟨by omega, by omega, ?_⟩
      rw [e2, List.drop_succ_cons, List.drop_zero, hd]
      congr 1; omega
    · exfalso
      obtain ⟨c, r, hcr, h1, h2⟩ := digits_head n.toNat
      have e : s = ⟨(c :: r).toArray⟩ := by rw [he, itoaS, Lib.itoa, if_neg hneg, hcr]
      subst e
      rw [beq_iff_eq] at hc
      have : ((c.toNat : Int)) = 45 := hc
      omega
  · refine number_pos s hs (fun h => ?_) (fun n hn he => ?_) w
    · have e : s.data.toList.getD 0 0 = s[0] := by
        rw [List.getD_eq_getElem?_getD, List.getElem?_eq_getElem (by rw [← Lib.size_eq]; exact h)]
        rfl
      rw [e]
      rcases hx : ((s[0].toNat : Int) == 45)
      · rfl
      · exact absurd ⟨h, hx⟩ hc
    · by_cases hneg : n < 0
      · exfalso
        have e : s = ⟨((45 : UInt8) :: Lib.decDigits n.natAbs).toArray⟩ := by rw [he, itoaS, Lib.itoa, if_pos hneg]
        subst e
        exact hc ⟨Nat.succ_pos _, rfl⟩
      · have hl := dd_len n.toNat (by unfold I64 at hn; omega)
        have hd := negV_digits n.toNat (by unfold I64 at hn; omega)
        have e2 : s.data.toList = Lib.decDigits n.toNat := by rw [he, itoaS, Lib.itoa, if_neg hneg]
        have e3 : s.size = (Lib.decDigits n.toNat).length := by rw [Lib.size_eq, e2]
        refine ⟨by omega, by omega, ?_, by omega⟩
        rw [e2, hd]
        congr 1; omega
end Go.Proofs.YtmalnjmginmjkaaGreatDoor
namespace Go.Proofs.YtmalnjmginmjkaaGreatDoor
open Go.RowKit
/-- The library's table of powers of ten holds what its text lays. -/
def Tab (w : World) : Prop := Lib.TabIs Tryz.prog w "internal/strconv.uint64pow10" .u64 Lib.pow10Tab
theorem tab_below {w w' : World} (h : Tab w) (hb : Below w.heap.size w w') : Tab w' := by
  have hg : Tryz.prog.globalNamed "internal/strconv.uint64pow10" = some 4 := by kernel_rfl
  have hlt : 4 < w.heap.size := by
    rcases Nat.lt_or_ge 4 w.heap.size with h1 | h1
    · exact h1
    · unfold Tab Lib.TabIs World.var? at h
      rw [hg] at h
      simp only [Option.bind_some] at h
      rw [Array.getElem?_eq_none h1] at h
      cases h
  exact var?_below hb hg hlt h
/-- A number as a text, by the library. -/
theorem fmt_any (n : Int) (hn : I64 n) (w : World) (ht : Tab w) : Calls Tryz.prog 30 #[.int .i64 n, .int .i64 10] w (Ret (.string (itoaS n)) w) :=
  (Any.strconv_FormatInt_10 Tryz.laysM173 n hn.1 hn.2 w ht).mono fun _ _ ⟨he, k, os, hw⟩ => ⟨he, hw ▸ Lib.below_grow _ _ (Nat.le_refl _) k os⟩
def boolS (b : Bool) : ByteArray := if b then ⟨#[116, 114, 117, 101]⟩ else ⟨#[102, 97, 108, 115, 101]⟩
theorem fmtBool_any (b : Bool) (w : World) : Calls Tryz.prog 31 #[.bool b] w (RetW (.string (boolS b)) w) := by
  cases b
  all_goals
    go_enter Tryz.func31, Tryz.ntmps31
    go_wp2
    go_returns
    exact ⟨rfl, rfl⟩
/-- How a right value is shown. -/
def showS (k n : Int) (s : ByteArray) : ByteArray := if k = 1 then itoaS n else if k = 2 then boolS (n == 1) else quote s
theorem show_n (n : Int) (s : ByteArray) (hn : I64 n) (w : World) (ht : Tab w) : Calls Tryz.prog 16 #[.agg #[.int .i64 1, .int .i64 n, .string s]] w (Ret (.string (itoaS n)) w) := by
  have H := fun wx (h : Tab wx) => Lib.hid (fmt_any n hn wx h)
  have H := Lib.hid H
  have T := fun wx (h : Below w.heap.size w wx) => Lib.hid (tab_below ht h)
  have T := Lib.hid T
  clear ht hn
  generalize itoaS n = t at *
  go_enter Tryz.func16, Tryz.ntmps16
  go_wp2_with ((with_reducible refine ((H.out _ (T.out _ (by repeat' (first | (with_reducible exact Below.refl _ _) | (with_reducible assumption) | (with_reducible refine Below.alloc ?_ ?_ _) | (with_reducible refine Below.drew ?_) | (with_reducible refine belowN ?_ _) | (with_reducible refine Below.setCell ?_ ?_ _) | (with_reducible refine belowG ?_ ?_) | (with_reducible exact Nat.le_refl _) | (with_reducible refine le_sizeG ?_) | (with_reducible refine le_sizeA ?_) | (with_reducible refine le_sizeC ?_) | (with_reducible refine le_sizeD ?_) | (with_reducible refine le_sizeN ?_) | go_size | (simp [go_sem]; done)))).out).out).mono ?_); intro e w1 hr; obtain ⟨rfl, p, rfl⟩ := hr.out; clear hr; skip)
  go_returns
  exact ⟨rfl, by repeat' (first | (with_reducible exact Below.refl _ _) | (with_reducible assumption) | (with_reducible refine Below.alloc ?_ ?_ _) | (with_reducible refine Below.drew ?_) | (with_reducible refine belowN ?_ _) | (with_reducible refine Below.setCell ?_ ?_ _) | (with_reducible refine belowG ?_ ?_) | (with_reducible exact Nat.le_refl _) | (with_reducible refine le_sizeG ?_) | (with_reducible refine le_sizeA ?_) | (with_reducible refine le_sizeC ?_) | (with_reducible refine le_sizeD ?_) | (with_reducible refine le_sizeN ?_) | go_size | (simp [go_sem]; done))⟩
theorem show_b (n : Int) (s : ByteArray) (hn : n = 0 ∨ n = 1) (w : World) : Calls Tryz.prog 16 #[.agg #[.int .i64 2, .int .i64 n, .string s]] w (Ret (.string (boolS (n == 1))) w) := by
  have y0 := Lib.hid (show yesB 2 0 = false by decide)
  have y1 := Lib.hid (show yesB 2 1 = true by decide)
  rcases hn with rfl | rfl
  all_goals
    go_enter Tryz.func16, Tryz.ntmps16
    go_wp2_with (first | ((with_reducible refine (yes_any 2 0 _ _).mono ?_); intro e w1 hr; obtain ⟨rfl, p, rfl⟩ := hr.out; clear hr; rw [y0.out]) | ((with_reducible refine (yes_any 2 1 _ _).mono ?_); intro e w1 hr; obtain ⟨rfl, p, rfl⟩ := hr.out; clear hr; rw [y1.out]) | ((with_reducible refine (fmtBool_any _ _).mono ?_); rintro e w1 ⟨rfl, rfl⟩))
    go_returns
    exact ⟨rfl, by repeat' (first | (with_reducible exact Below.refl _ _) | (with_reducible assumption) | (with_reducible refine Below.alloc ?_ ?_ _) | (with_reducible refine Below.drew ?_) | (with_reducible refine belowN ?_ _) | (with_reducible refine Below.setCell ?_ ?_ _) | (with_reducible refine belowG ?_ ?_) | (with_reducible exact Nat.le_refl _) | (with_reducible refine le_sizeG ?_) | (with_reducible refine le_sizeA ?_) | (with_reducible refine le_sizeC ?_) | (with_reducible refine le_sizeD ?_) | (with_reducible refine le_sizeN ?_) | go_size | (simp [go_sem]; done))⟩
theorem show_any (k n : Int) (s : ByteArray) (hr : rightB k n s = true) (hn : I64 n) (w : World) (ht : Tab w) : Calls Tryz.prog 16 #[.agg #[.int .i64 k, .int .i64 n, .string s]] w (Ret (.string (showS k n s)) w) := by
  rcases right_cases k n s hr with ⟨rfl, _⟩ | ⟨rfl, _, h⟩ | ⟨rfl, _, _, h⟩
  · exact show_n n s hn w ht
  · exact show_b n s h w
  · exact show_s n s w (by omega)
end Go.Proofs.YtmalnjmginmjkaaGreatDoor
