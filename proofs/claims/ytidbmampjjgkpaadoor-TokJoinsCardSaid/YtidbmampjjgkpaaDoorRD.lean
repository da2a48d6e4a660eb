import Derived.Test.YtidbmampjjgkpaaDoorSH
import Derived.Test.YtidbmampjjgkpaaDoorPI
import Derived.WalkKit
import Derived.ProofKit
import Derived.OpenShut
import Derived.Handy
import Derived.BigQuiet
import Derived.Lib.Hide
import Derived.Lib.Strings
import Derived.WalkSmall
import Derived.Lib.AtoiErrMem
import Derived.WalkLawsBesides
namespace Go.Proofs.YtidbmampjjgkpaaDoor
open Go.RowKit
theorem guess_b (b : Bool) (w : World) : Calls Tryd.prog 57 #[.string (boolS b)] w (Ret (.agg #[.int .i64 2, .int .i64 (bI b), .string ⟨#[]⟩]) w) := by
  have h := fun wx => Lib.hid (truth_any b wx)
  cases b
  · show Calls _ _ #[.string ⟨#[102, 97, 108, 115, 101]⟩] _ _
    go_enter Tryd.func57, Tryd.ntmps57
    go_wp2_with ((with_reducible refine ((h _).out).mono ?_); intro e w1 hr; obtain ⟨rfl, p, rfl⟩ := hr.out; clear hr)
    go_returns
    exact ⟨rfl, by repeat' (first | (with_reducible exact Below.refl _ _) | (with_reducible assumption) | (with_reducible refine Below.alloc ?_ ?_ _) | (with_reducible refine Below.drew ?_) | (with_reducible refine belowN ?_ _) | (with_reducible refine Below.setCell ?_ ?_ _) | (with_reducible refine belowG ?_ ?_) | (with_reducible exact Nat.le_refl _) | (with_reducible refine le_sizeG ?_) | (with_reducible refine le_sizeA ?_) | (with_reducible refine le_sizeC ?_) | (with_reducible refine le_sizeD ?_) | (with_reducible refine le_sizeN ?_) | go_size | (simp [go_sem]; done))⟩
  · show Calls _ _ #[.string ⟨#[116, 114, 117, 101]⟩] _ _
    go_enter Tryd.func57, Tryd.ntmps57
    go_wp2_with ((with_reducible refine ((h _).out).mono ?_); intro e w1 hr; obtain ⟨rfl, p, rfl⟩ := hr.out; clear hr)
    go_returns
    exact ⟨rfl, by repeat' (first | (with_reducible exact Below.refl _ _) | (with_reducible assumption) | (with_reducible refine Below.alloc ?_ ?_ _) | (with_reducible refine Below.drew ?_) | (with_reducible refine belowN ?_ _) | (with_reducible refine Below.setCell ?_ ?_ _) | (with_reducible refine belowG ?_ ?_) | (with_reducible exact Nat.le_refl _) | (with_reducible refine le_sizeG ?_) | (with_reducible refine le_sizeA ?_) | (with_reducible refine le_sizeC ?_) | (with_reducible refine le_sizeD ?_) | (with_reducible refine le_sizeN ?_) | go_size | (simp [go_sem]; done))⟩
set_option maxRecDepth 100000 in
theorem guess_q (q s : ByteArray) (w : World) (h1 : (q.toList == [116, 114, 117, 101]) = false) (h2 : (q.toList == [102, 97, 108, 115, 101]) = false) (h3 : 2 ≤ q.size) (h5 : q.size ≤ 9223372036854775000) (h4 : q[0] = 39) (h6 : q.extract 1 (q.size - 1) = s) : Calls Tryd.prog 57 #[.string q] w (Ret (.agg #[.int .i64 3, .int .i64 0, .string s]) w) := by
  have h := fun wx => Lib.hid (word_any s wx)
  have hsl : ∀ wx, (Instr.slice 9 (.string q) (some (.int .i64 1)) (some (.int .i64 ((q.size : Int) - 1))) none).run Tryd.prog wx = .ok (.string s) wx := by
    intro wx
    have := run_slice_string (P := Tryd.prog) wx 9 q .i64 .i64 1 ((q.size : Int) - 1) Tryd.underlying9 (by omega) (by omega) (by omega)
    rw [this, show ((1 : Int).toNat) = 1 from rfl, show ((q.size : Int) - 1).toNat = q.size - 1 by omega, h6]
  clear h6
  go_enter Tryd.func57, Tryd.ntmps57
  go_wp2_with ((with_reducible refine ((h _).out).mono ?_); intro e w1 hr; obtain ⟨rfl, p, rfl⟩ := hr.out; clear hr)
  go_returns
  exact ⟨rfl, by repeat' (first | (with_reducible exact Below.refl _ _) | (with_reducible assumption) | (with_reducible refine Below.alloc ?_ ?_ _) | (with_reducible refine Below.drew ?_) | (with_reducible refine belowN ?_ _) | (with_reducible refine Below.setCell ?_ ?_ _) | (with_reducible refine belowG ?_ ?_) | (with_reducible exact Nat.le_refl _) | (with_reducible refine le_sizeG ?_) | (with_reducible refine le_sizeA ?_) | (with_reducible refine le_sizeC ?_) | (with_reducible refine le_sizeD ?_) | (with_reducible refine le_sizeN ?_) | go_size | (simp [go_sem]; done))⟩
theorem parse_any (n : Int) (hn : I64 n) (t : ByteArray) (ht : t = itoaS n) (w : World) : Calls Tryd.prog 79 #[.string t, .int .i64 10, .int .i64 64] w (Ret (.tuple #[.int .i64 n, .nilIface]) w) :=
  (Any.strconv_ParseInt_10_at64_ok Tryd.laysC174 t (by rw [ht]; have := itoaS_size hn; omega) n (by rw [ht]; exact parse_itoa n hn) w).mono fun _ _ ⟨he, hw⟩ => ⟨he, by
    rcases hw with rfl | ⟨x, rfl⟩
    · exact Below.refl _ _
    · exact Lib.bytesWorld_below _ _ _⟩
theorem itoa_head (n : Int) : ∃ c r, Lib.itoa n = c :: r ∧ 45 ≤ c.toNat ∧ c.toNat ≤ 57 := by
  by_cases hn : n < 0
  · exact ⟨45, Lib.decDigits n.natAbs, by rw [Lib.itoa, if_pos hn], by decide, by decide⟩
  · obtain ⟨c, r, he, h1, h2⟩ := digits_head n.toNat
    exact ⟨c, r, by rw [Lib.itoa, if_neg hn, he], by omega, h2⟩
theorem first_not (c : UInt8) (r l : List UInt8) (d : UInt8) (h : c ≠ d) : ((⟨(c :: r).toArray⟩ : ByteArray).toList == d :: l) = false := by
  rw [Lib.toList_data]
  simp [h]
theorem first_at (c : UInt8) (r : List UInt8) (h : 0 < (⟨(c :: r).toArray⟩ : ByteArray).size) : (⟨(c :: r).toArray⟩ : ByteArray)[0] = c := rfl
theorem guess_n (n : Int) (hn : I64 n) (w : World) : Calls Tryd.prog 57 #[.string (itoaS n)] w (Ret (.agg #[.int .i64 1, .int .i64 n, .string ⟨#[]⟩]) w) := by
  have H := fun wx => Lib.hid (parse_any n hn _ rfl wx)
  have O := fun wx => Lib.hid (of_any n wx)
  have z := itoaS_size hn
  obtain ⟨c, r, he, c1, c2⟩ := itoa_head n
  have e : itoaS n = ⟨(c :: r).toArray⟩ := by rw [itoaS, he]
  have h1 : ((itoaS n).toList == [116, 114, 117, 101]) = false := by
    rw [e]; exact first_not _ _ _ _ (by rintro rfl; revert c2; decide)
  have h2 : ((itoaS n).toList == [102, 97, 108, 115, 101]) = false := by
    rw [e]; exact first_not _ _ _ _ (by rintro rfl; revert c2; decide)
  obtain ⟨h3, h4⟩ : ∃ h : 0 < (itoaS n).size, (((itoaS n)[0].toNat : Int) == 39) = false := by
    generalize itoaS n = t at *
    subst e
    refine ⟨Nat.succ_pos _, ?_⟩
    rw [first_at, beq_eq_false_iff_ne]
    omega
  clear hn e he
  generalize itoaS n = t at *
  rcases Nat.lt_or_ge t.size 2 with h5 | h5
  · go_enter Tryd.func57, Tryd.ntmps57
    go_wp2_with (first | ((with_reducible refine ((O _).out).mono ?_); intro e w1 hr; obtain ⟨rfl, p, rfl⟩ := hr.out; clear hr) | ((with_reducible refine ((H _).out).mono ?_); intro e w1 hr; obtain ⟨rfl, p, rfl⟩ := hr.out; clear hr))
    go_returns
    exact ⟨rfl, by repeat' (first | (with_reducible exact Below.refl _ _) | (with_reducible assumption) | (with_reducible refine Below.alloc ?_ ?_ _) | (with_reducible refine Below.drew ?_) | (with_reducible refine belowN ?_ _) | (with_reducible refine Below.setCell ?_ ?_ _) | (with_reducible refine belowG ?_ ?_) | (with_reducible exact Nat.le_refl _) | (with_reducible refine le_sizeG ?_) | (with_reducible refine le_sizeA ?_) | (with_reducible refine le_sizeC ?_) | (with_reducible refine le_sizeD ?_) | (with_reducible refine le_sizeN ?_) | go_size | (simp [go_sem]; done))⟩
  · go_enter Tryd.func57, Tryd.ntmps57
    go_wp2_with (first | ((with_reducible refine ((O _).out).mono ?_); intro e w1 hr; obtain ⟨rfl, p, rfl⟩ := hr.out; clear hr) | ((with_reducible refine ((H _).out).mono ?_); intro e w1 hr; obtain ⟨rfl, p, rfl⟩ := hr.out; clear hr))
    go_returns
    exact ⟨rfl, by repeat' (first | (with_reducible exact Below.refl _ _) | (with_reducible assumption) | (with_reducible refine Below.alloc ?_ ?_ _) | (with_reducible refine Below.drew ?_) | (with_reducible refine belowN ?_ _) | (with_reducible refine Below.setCell ?_ ?_ _) | (with_reducible refine belowG ?_ ?_) | (with_reducible exact Nat.le_refl _) | (with_reducible refine le_sizeG ?_) | (with_reducible refine le_sizeA ?_) | (with_reducible refine le_sizeC ?_) | (with_reducible refine le_sizeD ?_) | (with_reducible refine le_sizeN ?_) | go_size | (simp [go_sem]; done))⟩
theorem quote_size (s : ByteArray) : (quote s).size = s.size + 2 := by
  unfold quote
  simp only [ByteArray.size_append]
  show 1 + s.size + 1 = _
  omega
theorem quote_list (s : ByteArray) : quote s = ⟨((39 : UInt8) :: (s.data.toList ++ [39])).toArray⟩ := by
  unfold quote
  apply ByteArray.ext
  apply Array.ext'
  simp
theorem quote_mid (s : ByteArray) : (quote s).extract 1 ((quote s).size - 1) = s := by
  rw [quote_size, Lib.extract_eq, quote_list]
  have h := Lib.size_eq s
  show ByteArray.mk ((List.drop 1 ((39 : UInt8) :: (s.data.toList ++ [39]))).take (s.size + 2 - 1 - 1)).toArray = s
  rw [List.drop_succ_cons, List.drop_zero, show s.size + 2 - 1 - 1 = s.data.toList.length by omega, List.take_left' rfl]
theorem first_of (q : ByteArray) (c : UInt8) (r : List UInt8) (e : q = ⟨(c :: r).toArray⟩) (h : 0 < q.size) : q[0]'h = c := by
  subst e
  rfl
theorem guess_s (s : ByteArray) (hs : s.size ≤ 9223372036854770000) (w : World) : Calls Tryd.prog 57 #[.string (quote s)] w (Ret (.agg #[.int .i64 3, .int .i64 0, .string s]) w) :=
  guess_q (quote s) s w (by rw [quote_list]; exact first_not _ _ _ _ (by decide)) (by rw [quote_list]; exact first_not _ _ _ _ (by decide)) (by rw [quote_size]; omega) (by rw [quote_size]; omega)
    (first_of _ _ _ (quote_list s) _) (quote_mid s)
theorem right_size (k n : Int) (s : ByteArray) (hr : rightB k n s = true) : s.size ≤ maxLen := by
  unfold maxLen
  rcases right_cases k n s hr with ⟨rfl, rfl⟩ | ⟨rfl, rfl, _⟩ | ⟨rfl, rfl, h⟩
  · decide
  · decide
  · omega
theorem guess_any (k n : Int) (s : ByteArray) (hr : rightB k n s = true) (hn : I64 n) (w : World) : Calls Tryd.prog 57 #[.string (showS k n s)] w (Ret (.agg #[.int .i64 k, .int .i64 n, .string s]) w) := by
  rcases right_cases k n s hr with ⟨rfl, rfl⟩ | ⟨rfl, rfl, rfl | rfl⟩ | ⟨rfl, rfl, h⟩
  · exact guess_n n hn w
  · exact guess_b false w
  · exact guess_b true w
  · exact guess_s s (by omega) w
theorem showS_size (k n : Int) (s : ByteArray) (hr : rightB k n s = true) (hn : I64 n) : (showS k n s).size ≤ 1000 := by
  rcases right_cases k n s hr with ⟨rfl, rfl⟩ | ⟨rfl, rfl, rfl | rfl⟩ | ⟨rfl, rfl, h⟩
  · have := itoaS_size hn
    show (itoaS n).size ≤ _
    omega
  · show (boolS false).size ≤ 1000; decide
  · show (boolS true).size ≤ 1000; decide
  · show (quote s).size ≤ _
    rw [quote_size]; omega
/-- What is shown is read again. -/
theorem read_any (k n : Int) (s : ByteArray) (hr : rightB k n s = true) (hn : I64 n) (w : World) (ht : Tab w) : Calls Tryd.prog 22 #[.string (showS k n s)] w (Ret (.tuple #[.agg #[.int .i64 k, .int .i64 n, .string s], .int .i64 0]) w) := by
  have H := fun wx => Lib.hid (guess_any k n s hr hn wx)
  have H := Lib.hid H
  have S := fun wx (h : Tab wx) => Lib.hid (show_any k n s hr hn wx h)
  have S := Lib.hid S
  have T := fun wx (h : Below w.heap.size w wx) => Lib.hid (tab_below ht h)
  have T := Lib.hid T
  have z := Lib.hid (right_size k n s hr)
  have R := fun wx => Lib.hid (right_any k n s wx z.out)
  have R := Lib.hid R
  clear ht hn
  generalize showS k n s = t at *
  rw [hr] at R
  clear hr
  go_enter Tryd.func22, Tryd.ntmps22
  go_wp2_with (first | ((with_reducible refine ((H.out _).out).mono ?_); intro e w1 hr; obtain ⟨rfl, p, rfl⟩ := hr.out; clear hr) | ((with_reducible refine ((R.out _).out).mono ?_); intro e w1 hr; obtain ⟨rfl, p, rfl⟩ := hr.out; clear hr) | ((with_reducible refine ((S.out _ (T.out _ (by repeat' (first | (with_reducible exact Below.refl _ _) | (with_reducible assumption) | (with_reducible refine Below.alloc ?_ ?_ _) | (with_reducible refine Below.drew ?_) | (with_reducible refine belowN ?_ _) | (with_reducible refine Below.setCell ?_ ?_ _) | (with_reducible refine belowG ?_ ?_) | (with_reducible exact Nat.le_refl _) | (with_reducible refine le_sizeG ?_) | (with_reducible refine le_sizeA ?_) | (with_reducible refine le_sizeC ?_) | (with_reducible refine le_sizeD ?_) | (with_reducible refine le_sizeN ?_) | go_size | (simp [go_sem]; done)))).out).out).mono ?_); intro e w1 hr; obtain ⟨rfl, p, rfl⟩ := hr.out; clear hr; skip))
  go_returns
  exact ⟨rfl, by repeat' (first | (with_reducible exact Below.refl _ _) | (with_reducible assumption) | (with_reducible refine Below.alloc ?_ ?_ _) | (with_reducible refine Below.drew ?_) | (with_reducible refine belowN ?_ _) | (with_reducible refine Below.setCell ?_ ?_ _) | (with_reducible refine belowG ?_ ?_) | (with_reducible exact Nat.le_refl _) | (with_reducible refine le_sizeG ?_) | (with_reducible refine le_sizeA ?_) | (with_reducible refine le_sizeC ?_) | (with_reducible refine le_sizeD ?_) | (with_reducible refine le_sizeN ?_) | go_size | (simp [go_sem]; done))⟩
end Go.Proofs.YtidbmampjjgkpaaDoor
