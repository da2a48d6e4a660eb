/- Several texts of this proof, joined: DG, SH. -/
import Derived.Test.YtekfnnfphhoeoaaGreatDoorZ1
import Derived.WalkKit
import Derived.ProofKit
import Derived.OpenShut
import Derived.Handy
import Derived.BigQuiet
import Derived.Lib.Hide
import Derived.Deep.DeepCutAuto
import Derived.Lib.ItoaNum
import Derived.Lib.Strings
import Derived.WalkLawsBesides
import Derived.Test.YtekfnnfphhoeoaaGreatDoorShelf
import Derived.Test.YtekfnnfphhoeoaaGreatDoorZ3
import Derived.Lib.AppendIntMem
import Derived.WalkSmall
namespace Go.Proofs.YtekfnnfphhoeoaaGreatDoor
open Go.RowKit
theorem ret_str {a b : ByteArray} (h : a = b) : Ending.returned (.string a) = .returned (.string b) := by rw [h]
/-- A number in decimal digits. -/
def itoaS (n : Int) : ByteArray := ⟨(Lib.itoa n).toArray⟩
theorem itoaS_small {n : Int} (h0 : 0 ≤ n) (h1 : n < 10) : itoaS n = ⟨#[UInt8.ofNat (48 + n.toNat)]⟩ := by
  have h : ¬ n < 0 := by omega
  simp only [itoaS, Lib.itoa, h, if_false]
  rw [Lib.decDigits_one (by omega)]
theorem itoaS_neg {n : Int} (h0 : n < 0) : itoaS n = ⟨#[45]⟩ ++ itoaS (-n) := by
  have h : ¬ -n < 0 := by omega
  apply ByteArray.ext
  simp only [itoaS, Lib.itoa, h0, h, if_true, if_false, ByteArray.data_append]
  have e : n.natAbs = (-n).toNat := by omega
  rw [e]; simp
theorem itoaS_up {n : Int} (h0 : 10 ≤ n) : itoaS n = itoaS (n / 10) ++ itoaS (n % 10) := by
  have h : ¬ n < 0 := by omega
  have h1 : ¬ n / 10 < 0 := by omega
  apply ByteArray.ext
  rw [ByteArray.data_append, itoaS_small (n := n % 10) (by omega) (by omega)]
  simp only [itoaS, Lib.itoa, h, h1, if_false]
  rw [Lib.decDigits, dif_neg (by omega)]
  have e1 : n.toNat / 10 = (n / 10).toNat := by omega
  have e2 : n.toNat % 10 = (n % 10).toNat := by omega
  rw [e1, e2]; simp
theorem itoaS_down {n : Int} (h0 : n ≤ -10) : itoaS n = itoaS (n.tdiv 10) ++ itoaS (-(n.tmod 10)) := by
  have e1 : n.tdiv 10 = -((-n) / 10) := by
    have : n = -(-n) := by omega
    rw [this, Int.neg_tdiv, Int.tdiv_eq_ediv_of_nonneg (by omega), Int.neg_neg]
  have e2 : n.tmod 10 = -((-n) % 10) := by
    have : n = -(-n) := by omega
    rw [this, Int.neg_tmod, Int.tmod_eq_emod_of_nonneg (by omega), Int.neg_neg]
  rw [itoaS_neg (n := n) (by omega), itoaS_up (n := -n) (by omega), e1, e2, itoaS_neg (n := -((-n) / 10)) (by omega), Int.neg_neg, Int.neg_neg, ByteArray.append_assoc]
/-- One byte as a text. -/
theorem conv_one (W : World) (d : Int) : (convert 63 9 (.slice (some ⟨W.heap.size, 0, none⟩) 1 1)).run Tryz.prog (W.alloc (.cells #[.int .u8 d] 5)) =
    .ok (.string ⟨#[UInt8.ofNat d.toNat]⟩) (W.alloc (.cells #[.int .u8 d] 5)) := by
  rw [run_convert_bytes_string _ _ _ _ _ _ _ Tryz.underlying63 Tryz.underlying5 Tryz.underlying9]
  rw [run_bytesToString _ _ _ _ [d] (by simp [loadCells, go_sem])]
  rfl
set_option maxRecDepth 100000 in
theorem digits_small (n : Int) (h0 : 0 ≤ n) (h1 : n < 10) (w : World) : Calls Tryz.prog 54 #[.int .i64 n] w (Ret (.string (itoaS n)) w) := by
  have hs := Lib.hid (itoaS_small h0 h1)
  have hc : n = 0 ∨ n = 1 ∨ n = 2 ∨ n = 3 ∨ n = 4 ∨ n = 5 ∨ n = 6 ∨ n = 7 ∨ n = 8 ∨ n = 9 := by omega
  have hk := conv_one
  clear h0 h1
  rcases hc with rfl | rfl | rfl | rfl | rfl | rfl | rfl | rfl | rfl | rfl
  all_goals
    go_enter Tryz.func54, Tryz.ntmps54
    go_wp2
    go_returns
    exact ⟨by rw [hs.out]; rfl, by repeat' (first | (with_reducible exact Below.refl _ _) | (with_reducible assumption) | (with_reducible refine Below.alloc ?_ ?_ _) | (with_reducible refine Below.drew ?_) | (with_reducible refine belowN ?_ _) | (with_reducible refine Below.setCell ?_ ?_ _) | (with_reducible refine belowG ?_ ?_) | (with_reducible exact Nat.le_refl _) | (with_reducible refine le_sizeG ?_) | (with_reducible refine le_sizeA ?_) | (with_reducible refine le_sizeC ?_) | (with_reducible refine le_sizeD ?_) | (with_reducible refine le_sizeN ?_) | go_size | (simp [go_sem]; done))⟩
theorem nDigits_le : ∀ (k u : Nat), u < 10 ^ (k + 1) → Lib.nDigits u ≤ k + 1
  | 0, u, h => by rw [Lib.nDigits_small (by simpa using h)]; omega
  | k + 1, u, h => by
    by_cases hu : u < 10
    · rw [Lib.nDigits_small hu]; omega
    · rw [Lib.nDigits_big hu]
      have : u / 10 < 10 ^ (k + 1) := by rw [Nat.div_lt_iff_lt_mul (by omega)]; rw [Nat.pow_succ] at h; exact h
      have := nDigits_le k (u / 10) this
      omega
theorem itoaS_size {n : Int} (h : I64 n) : (itoaS n).size ≤ 20 := by
  have hb : n.natAbs < 10 ^ (18 + 1) := by unfold I64 at h; have : (10 : Nat) ^ (18 + 1) = 10000000000000000000 := by decide
                                           omega
  have hl := nDigits_le 18 n.natAbs hb
  have e : (itoaS n).size = (Lib.itoa n).length := by simp [itoaS, ByteArray.size]
  rw [e]
  unfold Lib.itoa
  split
  · rw [List.length_cons, Lib.decDigits_length]; omega
  · rw [Lib.decDigits_length, show n.toNat = n.natAbs by omega]; omega
theorem tdiv10 (n : Int) (h : n ≤ -10) : n.tdiv 10 = -((-n) / 10) ∧ n.tmod 10 = -((-n) % 10) := by
  have e : n = -(-n) := by omega
  constructor
  · conv => lhs; rw [e]
    rw [Int.neg_tdiv, Int.tdiv_eq_ediv_of_nonneg (by omega)]
  · conv => lhs; rw [e]
    rw [Int.neg_tmod, Int.tmod_eq_emod_of_nonneg (by omega)]
set_option maxHeartbeats 1000000 in
theorem digits_any (k : Nat) : ∀ (n : Int) (w : World), n.natAbs ≤ k → I64 n → Calls Tryz.prog 54 #[.int .i64 n] w (Ret (.string (itoaS n)) w) := by
  induction k with
  | zero =>
    intro n w hk _
    obtain rfl : n = 0 := by omega
    exact digits_small 0 (by omega) (by omega) w
  | succ k ih =>
    intro n w hk hn
    by_cases h0 : 0 ≤ n
    · by_cases h1 : n < 10
      · exact digits_small n h0 h1 w
      · have e := Lib.hid (itoaS_up (n := n) (by omega))
        have z1 := itoaS_size (n := n / 10) (by unfold I64 at *; omega)
        have z2 := itoaS_size (n := n % 10) (by unfold I64 at *; omega)
        have c1 := fun wx => Lib.hid (ih (n / 10) wx (by omega) (by unfold I64 at *; omega))
        have c1 := Lib.hid c1
        have c2 := fun wx => Lib.hid (digits_small (n % 10) (by omega) (by omega) wx)
        have c2 := Lib.hid c2
        obtain ⟨n1, n2⟩ := hn
        clear ih hk
        generalize itoaS (n / 10) = s1 at *
        generalize itoaS (n % 10) = s2 at *
        generalize itoaS n = s at *
        go_enter Tryz.func54, Tryz.ntmps54
        go_wp2_with (first | ((with_reducible refine ((c1.out _).out).mono ?_); intro e w1 hr; obtain ⟨rfl, p, rfl⟩ := hr.out; clear hr) | ((with_reducible refine ((c2.out _).out).mono ?_); intro e w1 hr; obtain ⟨rfl, p, rfl⟩ := hr.out; clear hr))
        go_returns
        exact ⟨ret_str e.out.symm, by repeat' (first | (with_reducible exact Below.refl _ _) | (with_reducible assumption) | (with_reducible refine Below.alloc ?_ ?_ _) | (with_reducible refine Below.drew ?_) | (with_reducible refine belowN ?_ _) | (with_reducible refine Below.setCell ?_ ?_ _) | (with_reducible refine belowG ?_ ?_) | (with_reducible exact Nat.le_refl _) | (with_reducible refine le_sizeG ?_) | (with_reducible refine le_sizeA ?_) | (with_reducible refine le_sizeC ?_) | (with_reducible refine le_sizeD ?_) | (with_reducible refine le_sizeN ?_) | go_size | (simp [go_sem]; done))⟩
    · by_cases h1 : n ≤ -10
      · have e := Lib.hid (itoaS_down h1)
        obtain ⟨t1, t2⟩ := tdiv10 n h1
        have b1 : I64 (n.tdiv 10) := by rw [t1]; unfold I64 at *; omega
        have b2 : 0 ≤ -(n.tmod 10) := by rw [t2]; omega
        have b3 : -(n.tmod 10) < 10 := by rw [t2]; omega
        have b4 : (n.tdiv 10).natAbs ≤ k := by rw [t1]; omega
        have z1 := itoaS_size b1
        have z2 := itoaS_size (n := -(n.tmod 10)) (by unfold I64; omega)
        have c1 := fun wx => Lib.hid (ih (n.tdiv 10) wx b4 b1)
        have c1 := Lib.hid c1
        have c2 := fun wx => Lib.hid (digits_small (-(n.tmod 10)) b2 b3 wx)
        have c2 := Lib.hid c2
        have b5 : -9 ≤ n.tmod 10 := by omega
        have b6 : n.tmod 10 ≤ 0 := by omega
        obtain ⟨n1, n2⟩ := hn
        obtain ⟨b7, b8⟩ := b1
        clear ih hk t1 t2 b2 b3 b4
        generalize itoaS (n.tdiv 10) = s1 at *
        generalize itoaS (-(n.tmod 10)) = s2 at *
        generalize itoaS n = s at *
        go_enter Tryz.func54, Tryz.ntmps54
        go_wp2_with (first | ((with_reducible refine ((c1.out _).out).mono ?_); intro e w1 hr; obtain ⟨rfl, p, rfl⟩ := hr.out; clear hr) | ((with_reducible refine ((c2.out _).out).mono ?_); intro e w1 hr; obtain ⟨rfl, p, rfl⟩ := hr.out; clear hr))
        go_returns
        exact ⟨ret_str e.out.symm, by repeat' (first | (with_reducible exact Below.refl _ _) | (with_reducible assumption) | (with_reducible refine Below.alloc ?_ ?_ _) | (with_reducible refine Below.drew ?_) | (with_reducible refine belowN ?_ _) | (with_reducible refine Below.setCell ?_ ?_ _) | (with_reducible refine belowG ?_ ?_) | (with_reducible exact Nat.le_refl _) | (with_reducible refine le_sizeG ?_) | (with_reducible refine le_sizeA ?_) | (with_reducible refine le_sizeC ?_) | (with_reducible refine le_sizeD ?_) | (with_reducible refine le_sizeN ?_) | go_size | (simp [go_sem]; done))⟩
      · have e := Lib.hid (itoaS_neg (n := n) (by omega))
        have z1 := itoaS_size (n := -n) (by unfold I64 at *; omega)
        have c1 := fun wx => Lib.hid (digits_small (-n) (by omega) (by omega) wx)
        have c1 := Lib.hid c1
        obtain ⟨n1, n2⟩ := hn
        clear ih hk
        generalize itoaS (-n) = s1 at *
        generalize itoaS n = s at *
        go_enter Tryz.func54, Tryz.ntmps54
        go_wp2_with (first | ((with_reducible refine ((c1.out _).out).mono ?_); intro e w1 hr; obtain ⟨rfl, p, rfl⟩ := hr.out; clear hr))
        go_returns
        exact ⟨ret_str e.out.symm, by repeat' (first | (with_reducible exact Below.refl _ _) | (with_reducible assumption) | (with_reducible refine Below.alloc ?_ ?_ _) | (with_reducible refine Below.drew ?_) | (with_reducible refine belowN ?_ _) | (with_reducible refine Below.setCell ?_ ?_ _) | (with_reducible refine belowG ?_ ?_) | (with_reducible exact Nat.le_refl _) | (with_reducible refine le_sizeG ?_) | (with_reducible refine le_sizeA ?_) | (with_reducible refine le_sizeC ?_) | (with_reducible refine le_sizeD ?_) | (with_reducible refine le_sizeN ?_) | go_size | (simp [go_sem]; done))⟩
end Go.Proofs.YtekfnnfphhoeoaaGreatDoor
namespace Go.Proofs.YtekfnnfphhoeoaaGreatDoor
open Go.RowKit
/-- The library's table of powers of ten holds what its text lays. -/
def Tab (w : World) : Prop := Lib.TabIs Tryz.prog w "internal/strconv.uint64pow10" .u64 Lib.pow10Tab
theorem tab_below {w w' : World} (h : Tab w) (hb : Below w.heap.size w w') : Tab w' := by
  have hg : Tryz.prog.globalNamed "internal/strconv.uint64pow10" = some 7 := by kernel_rfl
  have hlt : 7 < w.heap.size := by
    rcases Nat.lt_or_ge 7 w.heap.size with h1 | h1
    · exact h1
    · unfold Tab Lib.TabIs World.var? at h
      rw [hg] at h
      simp only [Option.bind_some] at h
      rw [Array.getElem?_eq_none h1] at h
      cases h
  exact var?_below hb hg hlt h
/-- A number as a text, by the library. -/
theorem fmt_any (n : Int) (hn : I64 n) (w : World) (ht : Tab w) : Calls Tryz.prog 84 #[.int .i64 n, .int .i64 10] w (Ret (.string (itoaS n)) w) :=
  (Any.strconv_FormatInt_10 Tryz.laysM173 n hn.1 hn.2 w ht).mono fun _ _ ⟨he, k, os, hw⟩ => ⟨he, hw ▸ Lib.below_grow _ _ (Nat.le_refl _) k os⟩
def boolS (b : Bool) : ByteArray := if b then ⟨#[116, 114, 117, 101]⟩ else ⟨#[102, 97, 108, 115, 101]⟩
theorem fmtBool_any (b : Bool) (w : World) : Calls Tryz.prog 85 #[.bool b] w (RetW (.string (boolS b)) w) := by
  cases b
  all_goals
    go_enter Tryz.func85, Tryz.ntmps85
    go_wp2
    go_returns
    exact ⟨rfl, rfl⟩
/-- How a right value is shown. -/
def showS (k n : Int) (s : ByteArray) : ByteArray := if k = 1 then itoaS n else if k = 2 then boolS (n == 1) else quote s
theorem show_n (n : Int) (s : ByteArray) (hn : I64 n) (w : World) (ht : Tab w) : Calls Tryz.prog 44 #[.agg #[.int .i64 1, .int .i64 n, .string s]] w (Ret (.string (itoaS n)) w) := by
  have H := fun wx (h : Tab wx) => Lib.hid (fmt_any n hn wx h)
  have H := Lib.hid H
  have T := fun wx (h : Below w.heap.size w wx) => Lib.hid (tab_below ht h)
  have T := Lib.hid T
  clear ht hn
  generalize itoaS n = t at *
  go_enter Tryz.func44, Tryz.ntmps44
  go_wp2_with ((with_reducible refine ((H.out _ (T.out _ (by repeat' (first | (with_reducible exact Below.refl _ _) | (with_reducible assumption) | (with_reducible refine Below.alloc ?_ ?_ _) | (with_reducible refine Below.drew ?_) | (with_reducible refine belowN ?_ _) | (with_reducible refine Below.setCell ?_ ?_ _) | (with_reducible refine belowG ?_ ?_) | (with_reducible exact Nat.le_refl _) | (with_reducible refine le_sizeG ?_) | (with_reducible refine le_sizeA ?_) | (with_reducible refine le_sizeC ?_) | (with_reducible refine le_sizeD ?_) | (with_reducible refine le_sizeN ?_) | go_size | (simp [go_sem]; done)))).out).out).mono ?_); intro e w1 hr; obtain ⟨rfl, p, rfl⟩ := hr.out; clear hr; skip)
  go_returns
  exact ⟨rfl, by repeat' (first | (with_reducible exact Below.refl _ _) | (with_reducible assumption) | (with_reducible refine Below.alloc ?_ ?_ _) | (with_reducible refine Below.drew ?_) | (with_reducible refine belowN ?_ _) | (with_reducible refine Below.setCell ?_ ?_ _) | (with_reducible refine belowG ?_ ?_) | (with_reducible exact Nat.le_refl _) | (with_reducible refine le_sizeG ?_) | (with_reducible refine le_sizeA ?_) | (with_reducible refine le_sizeC ?_) | (with_reducible refine le_sizeD ?_) | (with_reducible refine le_sizeN ?_) | go_size | (simp [go_sem]; done))⟩
theorem show_b (n : Int) (s : ByteArray) (hn : n = 0 ∨ n = 1) (w : World) : Calls Tryz.prog 44 #[.agg #[.int .i64 2, .int .i64 n, .string s]] w (Ret (.string (boolS (n == 1))) w) := by
  have y0 := Lib.hid (show yesB 2 0 = false by decide)
  have y1 := Lib.hid (show yesB 2 1 = true by decide)
  rcases hn with rfl | rfl
  all_goals
    go_enter Tryz.func44, Tryz.ntmps44
    go_wp2_with (first | ((with_reducible refine (yes_any 2 0 _ _).mono ?_); intro e w1 hr; obtain ⟨rfl, p, rfl⟩ := hr.out; clear hr; rw [y0.out]) | ((with_reducible refine (yes_any 2 1 _ _).mono ?_); intro e w1 hr; obtain ⟨rfl, p, rfl⟩ := hr.out; clear hr; rw [y1.out]) | ((with_reducible refine (fmtBool_any _ _).mono ?_); rintro e w1 ⟨rfl, rfl⟩))
    go_returns
    exact ⟨rfl, by repeat' (first | (with_reducible exact Below.refl _ _) | (with_reducible assumption) | (with_reducible refine Below.alloc ?_ ?_ _) | (with_reducible refine Below.drew ?_) | (with_reducible refine belowN ?_ _) | (with_reducible refine Below.setCell ?_ ?_ _) | (with_reducible refine belowG ?_ ?_) | (with_reducible exact Nat.le_refl _) | (with_reducible refine le_sizeG ?_) | (with_reducible refine le_sizeA ?_) | (with_reducible refine le_sizeC ?_) | (with_reducible refine le_sizeD ?_) | (with_reducible refine le_sizeN ?_) | go_size | (simp [go_sem]; done))⟩
theorem show_any (k n : Int) (s : ByteArray) (hr : rightB k n s = true) (hn : I64 n) (w : World) (ht : Tab w) : Calls Tryz.prog 44 #[.agg #[.int .i64 k, .int .i64 n, .string s]] w (Ret (.string (showS k n s)) w) := by
  rcases right_cases k n s hr with ⟨rfl, _⟩ | ⟨rfl, _, h⟩ | ⟨rfl, _, _, h⟩
  · exact show_n n s hn w ht
  · exact show_b n s h w
  · exact show_s n s w (by omega)
theorem rshow_any (k n : Int) (s : ByteArray) (hr : rightB k n s = true) (hn : I64 n) (w : World) : Calls Tryz.prog 31 #[.agg #[.int .i64 k, .int .i64 n, .string s]] w (Ret (.string (showS k n s)) w) := by
  rcases right_cases k n s hr with ⟨rfl, _⟩ | ⟨rfl, _, h⟩ | ⟨rfl, _, _, h⟩
  · have H := fun wx => Lib.hid (digits_any n.natAbs n wx (Nat.le_refl _) hn)
    have H := Lib.hid H
    clear hn hr
    show Calls _ _ _ _ (Ret (.string (itoaS n)) w)
    generalize itoaS n = t at *
    go_enter Tryz.func31, Tryz.ntmps31
    go_wp2_with ((with_reducible refine ((H.out _).out).mono ?_); intro e w1 hr; obtain ⟨rfl, p, rfl⟩ := hr.out; clear hr)
    go_returns
    exact ⟨rfl, by repeat' (first | (with_reducible exact Below.refl _ _) | (with_reducible assumption) | (with_reducible refine Below.alloc ?_ ?_ _) | (with_reducible refine Below.drew ?_) | (with_reducible refine belowN ?_ _) | (with_reducible refine Below.setCell ?_ ?_ _) | (with_reducible refine belowG ?_ ?_) | (with_reducible exact Nat.le_refl _) | (with_reducible refine le_sizeG ?_) | (with_reducible refine le_sizeA ?_) | (with_reducible refine le_sizeC ?_) | (with_reducible refine le_sizeD ?_) | (with_reducible refine le_sizeN ?_) | go_size | (simp [go_sem]; done))⟩
  · clear hr hn
    rcases h with rfl | rfl
    all_goals
      go_enter Tryz.func31, Tryz.ntmps31
      go_wp2
      go_returns
      exact ⟨rfl, by repeat' (first | (with_reducible exact Below.refl _ _) | (with_reducible assumption) | (with_reducible refine Below.alloc ?_ ?_ _) | (with_reducible refine Below.drew ?_) | (with_reducible refine belowN ?_ _) | (with_reducible refine Below.setCell ?_ ?_ _) | (with_reducible refine belowG ?_ ?_) | (with_reducible exact Nat.le_refl _) | (with_reducible refine le_sizeG ?_) | (with_reducible refine le_sizeA ?_) | (with_reducible refine le_sizeC ?_) | (with_reducible refine le_sizeD ?_) | (with_reducible refine le_sizeN ?_) | go_size | (simp [go_sem]; done))⟩
  · clear hr hn
    have h' : s.size ≤ 9223372036854775800 := by omega
    show Calls _ _ _ _ (Ret (.string (quote s)) w)
    go_enter Tryz.func31, Tryz.ntmps31
    go_wp2
    go_returns
    exact ⟨rfl, by repeat' (first | (with_reducible exact Below.refl _ _) | (with_reducible assumption) | (with_reducible refine Below.alloc ?_ ?_ _) | (with_reducible refine Below.drew ?_) | (with_reducible refine belowN ?_ _) | (with_reducible refine Below.setCell ?_ ?_ _) | (with_reducible refine belowG ?_ ?_) | (with_reducible exact Nat.le_refl _) | (with_reducible refine le_sizeG ?_) | (with_reducible refine le_sizeA ?_) | (with_reducible refine le_sizeC ?_) | (with_reducible refine le_sizeD ?_) | (with_reducible refine le_sizeN ?_) | go_size | (simp [go_sem]; done))⟩
end Go.Proofs.YtekfnnfphhoeoaaGreatDoor
