import Derived.Test.YtlekmpjmcbnjdaaGreatDoorM1
import Derived.Test.YtlekmpjmcbnjdaaGreatDoorM2
import Derived.Test.YtlekmpjmcbnjdaaGreatDoorZ3
import Derived.Test.YtlekmpjmcbnjdaaGreatDoorZ1
import Derived.WalkKit
import Derived.ProofKit
import Derived.OpenShut
import Derived.Handy
import Derived.BigQuiet
import Derived.Lib.Hide
import Derived.Lib.Strings
import Derived.WalkLawsBesides
namespace Go.Proofs.YtlekmpjmcbnjdaaGreatDoor
open Go.RowKit
theorem reckon2_any (op : Int) (k n : Int) (s : ByteArray) (k2 n2 : Int) (s2 : ByteArray) (ha : rightB k n s = true) (hb : rightB k2 n2 s2 = true) (hn : I64 n) (hn2 : I64 n2) (ho : aloneB op = false) (hr : resB op k k2 = true) (g : Nat) (w : World) (hg : g < w.heap.size) (c0 : w.cell? ⟨g, 0, none⟩ = some (.int .i64 k2)) (c1 : w.cell? ⟨g, 1, none⟩ = some (.int .i64 n2)) (c2 : w.cell? ⟨g, 2, none⟩ = some (.string s2)) :
    Calls Tryz.prog 66 #[.int .i64 op, .agg #[.int .i64 k, .int .i64 n, .string s], .slice (some ⟨g, 0, none⟩) 1 1] w (Ret (rkV (rk op k n s n2 s2)) w) := by
  obtain rfl := res_kinds hr ho
  have ht := resB_takes hr
  have a := right_cases k n s ha
  have b := right_cases k n2 s2 hb
  clear ha hb hr
  rcases op_cases op with rfl | rfl | rfl | rfl | rfl | rfl | rfl | rfl | rfl | rfl | rfl | rfl | rfl | rfl | rfl | h
  case' inr.inr.inr.inr.inr.inr.inr.inr.inr.inr.inr.inr.inr.inr.inr => rw [takes_other op k h] at ht; cases ht
  all_goals first | (exact absurd ho (by decide)) | skip
  all_goals
    rcases a with ⟨rfl, rfl⟩ | ⟨rfl, rfl, a⟩ | ⟨rfl, rfl, a, a'⟩
    all_goals first | (exact absurd ht (by decide)) | skip
    all_goals
      rcases b with ⟨b1, rfl⟩ | ⟨b1, rfl, b⟩ | ⟨b1, rfl, b, b'⟩
      all_goals first | (exact absurd b1 (by decide)) | skip
  -- Mul
  · exact reckon3 n n2 hn hn2 g w hg c0 c1 c2
  -- Div
  · by_cases h0 : n2 = 0
    · have e : rk 4 1 n ⟨#[]⟩ n2 ⟨#[]⟩ = errR 22 := by simp [rk, h0]
      rw [e]; exact reckon45 4 n n2 (Or.inl rfl) h0 g w hg c0 c1 c2
    · have e : rk 4 1 n ⟨#[]⟩ n2 ⟨#[]⟩ = numR (n.tdiv n2) := by simp [rk, h0]
      rw [e]; exact reckon4 n n2 hn hn2 (by simpa using h0) g w hg c0 c1 c2
  · by_cases h0 : n2 = 0
    · have e : rk 5 1 n ⟨#[]⟩ n2 ⟨#[]⟩ = errR 22 := by simp [rk, h0]
      rw [e]; exact reckon45 5 n n2 (Or.inr rfl) h0 g w hg c0 c1 c2
    · have e : rk 5 1 n ⟨#[]⟩ n2 ⟨#[]⟩ = ⟨1, n.tmod n2, ⟨#[]⟩, 0⟩ := by simp [rk, h0]
      rw [e]; exact reckon5 n n2 (by simpa using h0) g w hg c0 c1 c2
  · exact reckon6 n n2 hn hn2 g w hg c0 c1 c2
  · exact reckon6s s s2 a' b' g w hg c0 c1 c2
  · exact reckon7 n n2 hn hn2 g w hg c0 c1 c2
  -- Less, AtMost, More, AtLeast
  · have e := (stand_n n n2).1
    have := reckonCn 8 (by decide) n n2 g w hg c0 c1 c2
    rw [e] at this; exact this
  · have e := (stand_d s s2).1
    have := reckonCs 8 (by decide) 0 0 s s2 g w hg c0 c1 c2
    rw [e] at this; exact this
  · have e := (stand_n n n2).2.1
    have := reckonCn 9 (by decide) n n2 g w hg c0 c1 c2
    rw [e] at this; exact this
  · have e := (stand_d s s2).2.1
    have := reckonCs 9 (by decide) 0 0 s s2 g w hg c0 c1 c2
    rw [e] at this; exact this
  · have e := (stand_n n n2).2.2.1
    have := reckonCn 10 (by decide) n n2 g w hg c0 c1 c2
    rw [e] at this; exact this
  · have e := (stand_d s s2).2.2.1
    have := reckonCs 10 (by decide) 0 0 s s2 g w hg c0 c1 c2
    rw [e] at this; exact this
  · have e := (stand_n n n2).2.2.2
    have := reckonCn 11 (by decide) n n2 g w hg c0 c1 c2
    rw [e] at this; exact this
  · have e := (stand_d s s2).2.2.2
    have := reckonCs 11 (by decide) 0 0 s s2 g w hg c0 c1 c2
    rw [e] at this; exact this
  -- Same, Unlike
  · exact reckonE 12 (by decide) 1 (by decide) n n2 ⟨#[]⟩ ⟨#[]⟩ g w hg c0 c1 c2
  · exact reckonE 12 (by decide) 2 (by decide) n n2 ⟨#[]⟩ ⟨#[]⟩ g w hg c0 c1 c2
  · exact reckonE 12 (by decide) 3 (by decide) 0 0 s s2 g w hg c0 c1 c2
  · exact reckonE 13 (by decide) 1 (by decide) n n2 ⟨#[]⟩ ⟨#[]⟩ g w hg c0 c1 c2
  · exact reckonE 13 (by decide) 2 (by decide) n n2 ⟨#[]⟩ ⟨#[]⟩ g w hg c0 c1 c2
  · exact reckonE 13 (by decide) 3 (by decide) 0 0 s s2 g w hg c0 c1 c2
  · exact reckonL 14 (by decide) n n2 a b g w hg c0 c1 c2
  · exact reckonL 15 (by decide) n n2 a b g w hg c0 c1 c2
/-- What can't be reckoned of two. -/
theorem reckon2_bad (op : Int) (k n : Int) (s : ByteArray) (k2 n2 : Int) (s2 : ByteArray) (ho : aloneB op = false) (hr : resB op k k2 = false) (g : Nat) (w : World) (hg : g < w.heap.size) (c0 : w.cell? ⟨g, 0, none⟩ = some (.int .i64 k2)) (c1 : w.cell? ⟨g, 1, none⟩ = some (.int .i64 n2)) (c2 : w.cell? ⟨g, 2, none⟩ = some (.string s2)) :
    Calls Tryz.prog 66 #[.int .i64 op, .agg #[.int .i64 k, .int .i64 n, .string s], .slice (some ⟨g, 0, none⟩) 1 1] w (Ret (rkV (errR 20)) w) := by
  have ho' := Lib.hid ho
  have hr' := Lib.hid hr
  clear ho hr
  go_enter Tryz.func66, Tryz.ntmps66
  go_wp2_with (first | ((with_reducible refine (alone_f ho'.out _).mono ?_); rintro e w1 ⟨rfl, rfl⟩) | ((with_reducible refine (result_f hr'.out _).mono ?_); rintro e w1 ⟨rfl, rfl⟩))
  go_returns
  exact ⟨rfl, by repeat' (first | (with_reducible exact Below.refl _ _) | (with_reducible assumption) | (with_reducible refine Below.alloc ?_ ?_ _) | (with_reducible refine Below.drew ?_) | (with_reducible refine belowN ?_ _) | (with_reducible refine Below.setCell ?_ ?_ _) | (with_reducible refine belowG ?_ ?_) | (with_reducible exact Nat.le_refl _) | (with_reducible refine le_sizeG ?_) | (with_reducible refine le_sizeA ?_) | (with_reducible refine le_sizeC ?_) | (with_reducible refine le_sizeD ?_) | (with_reducible refine le_sizeN ?_) | go_size | (simp [go_sem]; done))⟩
theorem reckon2_alone (op : Int) (k n : Int) (s : ByteArray) (ho : aloneB op = true) (g : Nat) (w : World) :
    Calls Tryz.prog 66 #[.int .i64 op, .agg #[.int .i64 k, .int .i64 n, .string s], .slice (some ⟨g, 0, none⟩) 1 1] w (Ret (rkV (errR 20)) w) := by
  have ho' := Lib.hid ho
  clear ho
  go_enter Tryz.func66, Tryz.ntmps66
  go_wp2_with (first | ((with_reducible refine (alone_t ho'.out _).mono ?_); rintro e w1 ⟨rfl, rfl⟩))
  go_returns
  exact ⟨rfl, by repeat' (first | (with_reducible exact Below.refl _ _) | (with_reducible assumption) | (with_reducible refine Below.alloc ?_ ?_ _) | (with_reducible refine Below.drew ?_) | (with_reducible refine belowN ?_ _) | (with_reducible refine Below.setCell ?_ ?_ _) | (with_reducible refine belowG ?_ ?_) | (with_reducible exact Nat.le_refl _) | (with_reducible refine le_sizeG ?_) | (with_reducible refine le_sizeA ?_) | (with_reducible refine le_sizeC ?_) | (with_reducible refine le_sizeD ?_) | (with_reducible refine le_sizeN ?_) | go_size | (simp [go_sem]; done))⟩
/-- One value alone. -/
theorem reckon1_two (op k n : Int) (s : ByteArray) (ho : aloneB op = false) (w : World) :
    Calls Tryz.prog 66 #[.int .i64 op, .agg #[.int .i64 k, .int .i64 n, .string s], .slice none 0 0] w (Ret (rkV (errR 20)) w) := by
  have ho' := Lib.hid ho
  clear ho
  go_enter Tryz.func66, Tryz.ntmps66
  go_wp2_with (first | ((with_reducible refine (alone_f ho'.out _).mono ?_); rintro e w1 ⟨rfl, rfl⟩))
  go_returns
  exact ⟨rfl, by repeat' (first | (with_reducible exact Below.refl _ _) | (with_reducible assumption) | (with_reducible refine Below.alloc ?_ ?_ _) | (with_reducible refine Below.drew ?_) | (with_reducible refine belowN ?_ _) | (with_reducible refine Below.setCell ?_ ?_ _) | (with_reducible refine belowG ?_ ?_) | (with_reducible exact Nat.le_refl _) | (with_reducible refine le_sizeG ?_) | (with_reducible refine le_sizeA ?_) | (with_reducible refine le_sizeC ?_) | (with_reducible refine le_sizeD ?_) | (with_reducible refine le_sizeN ?_) | go_size | (simp [go_sem]; done))⟩
theorem reckon1_bad (op k n : Int) (s : ByteArray) (ho : aloneB op = true) (hr : resB op k 0 = false) (w : World) :
    Calls Tryz.prog 66 #[.int .i64 op, .agg #[.int .i64 k, .int .i64 n, .string s], .slice none 0 0] w (Ret (rkV (errR 20)) w) := by
  have ho' := Lib.hid ho
  have hr' := Lib.hid hr
  clear ho hr
  go_enter Tryz.func66, Tryz.ntmps66
  go_wp2_with (first | ((with_reducible refine (alone_t ho'.out _).mono ?_); rintro e w1 ⟨rfl, rfl⟩) | ((with_reducible refine (result_f hr'.out _).mono ?_); rintro e w1 ⟨rfl, rfl⟩))
  go_returns
  exact ⟨rfl, by repeat' (first | (with_reducible exact Below.refl _ _) | (with_reducible assumption) | (with_reducible refine Below.alloc ?_ ?_ _) | (with_reducible refine Below.drew ?_) | (with_reducible refine belowN ?_ _) | (with_reducible refine Below.setCell ?_ ?_ _) | (with_reducible refine belowG ?_ ?_) | (with_reducible exact Nat.le_refl _) | (with_reducible refine le_sizeG ?_) | (with_reducible refine le_sizeA ?_) | (with_reducible refine le_sizeC ?_) | (with_reducible refine le_sizeD ?_) | (with_reducible refine le_sizeN ?_) | go_size | (simp [go_sem]; done))⟩
theorem reckon1_not (n : Int) (hn : n = 0 ∨ n = 1) (w : World) :
    Calls Tryz.prog 66 #[.int .i64 1, .agg #[.int .i64 2, .int .i64 n, .string ⟨#[]⟩], .slice none 0 0] w (Ret (rkV (trR (n == 0))) w) := by
  have y0 := Lib.hid (show yesB 2 0 = false by decide)
  have y1 := Lib.hid (show yesB 2 1 = true by decide)
  rcases hn with rfl | rfl
  all_goals
    go_enter Tryz.func66, Tryz.ntmps66
    go_wp2_with (first | ((with_reducible refine (alone_t (by decide) _).mono ?_); rintro e w1 ⟨rfl, rfl⟩) | ((with_reducible refine (result_t (by decide) _).mono ?_); rintro e w1 ⟨rfl, rfl⟩) | ((with_reducible refine (yes_any 2 0 _ _).mono ?_); intro e w1 hr; obtain ⟨rfl, p, rfl⟩ := hr.out; clear hr; rw [y0.out]) | ((with_reducible refine (yes_any 2 1 _ _).mono ?_); intro e w1 hr; obtain ⟨rfl, p, rfl⟩ := hr.out; clear hr; rw [y1.out]) | ((with_reducible refine (truth_any _ _).mono ?_); intro e w1 hr; obtain ⟨rfl, p, rfl⟩ := hr.out; clear hr))
    go_returns
    exact ⟨rfl, by repeat' (first | (with_reducible exact Below.refl _ _) | (with_reducible assumption) | (with_reducible refine Below.alloc ?_ ?_ _) | (with_reducible refine Below.drew ?_) | (with_reducible refine belowN ?_ _) | (with_reducible refine Below.setCell ?_ ?_ _) | (with_reducible refine belowG ?_ ?_) | (with_reducible exact Nat.le_refl _) | (with_reducible refine le_sizeG ?_) | (with_reducible refine le_sizeA ?_) | (with_reducible refine le_sizeC ?_) | (with_reducible refine le_sizeD ?_) | (with_reducible refine le_sizeN ?_) | go_size | (simp [go_sem]; done))⟩
theorem reckon1_neg (n : Int) (hn : I64 n) (w : World) :
    Calls Tryz.prog 66 #[.int .i64 2, .agg #[.int .i64 1, .int .i64 n, .string ⟨#[]⟩], .slice none 0 0] w (Ret (rkV (numR (-n))) w) := by
  have H := fun wx => Lib.hid (number2 n 0 hn wx)
  have H := Lib.hid H
  clear hn
  generalize -n = x at *
  go_enter Tryz.func66, Tryz.ntmps66
  go_wp2_with (first | ((with_reducible refine (alone_t (by decide) _).mono ?_); rintro e w1 ⟨rfl, rfl⟩) | ((with_reducible refine (result_t (by decide) _).mono ?_); rintro e w1 ⟨rfl, rfl⟩) | ((with_reducible refine ((H.out _).out).mono ?_); intro e w1 hr; obtain ⟨rfl, p, rfl⟩ := hr.out; clear hr; rw [numV_rk, rkV_def]))
  go_returns
  exact ⟨rfl, by repeat' (first | (with_reducible exact Below.refl _ _) | (with_reducible assumption) | (with_reducible refine Below.alloc ?_ ?_ _) | (with_reducible refine Below.drew ?_) | (with_reducible refine belowN ?_ _) | (with_reducible refine Below.setCell ?_ ?_ _) | (with_reducible refine belowG ?_ ?_) | (with_reducible exact Nat.le_refl _) | (with_reducible refine le_sizeG ?_) | (with_reducible refine le_sizeA ?_) | (with_reducible refine le_sizeC ?_) | (with_reducible refine le_sizeD ?_) | (with_reducible refine le_sizeN ?_) | go_size | (simp [go_sem]; done))⟩
theorem reckon1_any (op k n : Int) (s : ByteArray) (k2 n2 : Int) (s2 : ByteArray) (ha : rightB k n s = true) (hn : I64 n) (ho : aloneB op = true) (hr : resB op k k2 = true) (w : World) :
    Calls Tryz.prog 66 #[.int .i64 op, .agg #[.int .i64 k, .int .i64 n, .string s], .slice none 0 0] w (Ret (rkV (rk op k n s n2 s2)) w) := by
  have ht := resB_takes hr
  have a := right_cases k n s ha
  clear ha hr
  have ho' : op = 1 ∨ op = 2 := by simpa [aloneB] using ho
  rcases ho' with rfl | rfl
  all_goals
    rcases a with ⟨rfl, rfl⟩ | ⟨rfl, rfl, a⟩ | ⟨rfl, rfl, a, a'⟩
    all_goals first | (exact absurd ht (by decide)) | skip
  · exact reckon1_not n a w
  · exact reckon1_neg n hn w
end Go.Proofs.YtlekmpjmcbnjdaaGreatDoor

