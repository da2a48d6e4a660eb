/- Several texts of this proof, joined: DG, SH. -/
import Derived.Test.YtmdjlngdpjjfiaaGreatDoorZ1
import Derived.WalkKit
import Derived.ProofKit
import Derived.OpenShut
import Derived.Handy
import Derived.BigQuiet
import Derived.Lib.Hide
import Derived.Deep.DeepCutAuto
import Derived.Lib.ItoaNum
import Derived.Lib.Strings
import Derived.WalkLawsBesides
import Derived.Test.YtmdjlngdpjjfiaaGreatDoorShelf
import Derived.Test.YtmdjlngdpjjfiaaGreatDoorZ3
import Derived.Lib.AppendIntMem
import Derived.WalkSmall
namespace Go.Proofs.YtmdjlngdpjjfiaaGreatDoor
open Go.RowKit
/-- A number in decimal digits. -/
def itoaS (n : Int) : ByteArray := ⟨(Lib.itoa n).toArray⟩
end Go.Proofs.YtmdjlngdpjjfiaaGreatDoor
namespace Go.Proofs.YtmdjlngdpjjfiaaGreatDoor
open Go.RowKit
/-- The library's table of powers of ten holds what its text lays. -/
def Tab (w : World) : Prop := Lib.TabIs Tryz.prog w "internal/strconv.uint64pow10" .u64 Lib.pow10Tab
theorem tab_below {w w' : World} (h : Tab w) (hb : Below w.heap.size w w') : Tab w' := by
  have hg : Tryz.prog.globalNamed "internal/strconv.uint64pow10" = some 4 := by kernel_rfl
  have hlt : 4 < w.heap.size := by
    rcases Nat.lt_or_ge 4 w.heap.size with h1 | h1
    · exact h1
    · unfold Tab Lib.TabIs World.var? at h
      rw [hg] at h
      simp only [Option.bind_some] at h
      rw [Array.getElem?_eq_none h1] at h
      cases h
  exact var?_below hb hg hlt h
/-- A number as a text, by the library. -/
theorem fmt_any (n : Int) (hn : I64 n) (w : World) (ht : Tab w) : Calls Tryz.prog 42 #[.int .i64 n, .int .i64 10] w (Ret (.string (itoaS n)) w) :=
  (Any.strconv_FormatInt_10 Tryz.laysM173 n hn.1 hn.2 w ht).mono fun _ _ ⟨he, k, os, hw⟩ => ⟨he, hw ▸ Lib.below_grow _ _ (Nat.le_refl _) k os⟩
def boolS (b : Bool) : ByteArray := if b then ⟨#[116, 114, 117, 101]⟩ else ⟨#[102, 97, 108, 115, 101]⟩
theorem fmtBool_any (b : Bool) (w : World) : Calls Tryz.prog 99 #[.bool b] w (RetW (.string (boolS b)) w) := by
  cases b
  all_goals
    go_enter Tryz.func99, Tryz.ntmps99
    go_wp2
    go_returns
    exact ⟨rfl, rfl⟩
/-- How a right value is shown. -/
def showS (k n : Int) (s : ByteArray) : ByteArray := if k = 1 then itoaS n else if k = 2 then boolS (n == 1) else quote s
theorem show_n (n : Int) (s : ByteArray) (hn : I64 n) (w : World) (ht : Tab w) : Calls Tryz.prog 81 #[.agg #[.int .i64 1, .int .i64 n, .string s]] w (Ret (.string (itoaS n)) w) := by
  have H := fun wx (h : Tab wx) => Lib.hid (fmt_any n hn wx h)
  have H := Lib.hid H
  have T := fun wx (h : Below w.heap.size w wx) => Lib.hid (tab_below ht h)
  have T := Lib.hid T
  clear ht hn
  generalize itoaS n = t at *
  go_enter Tryz.func81, Tryz.ntmps81
  go_wp2_with ((with_reducible refine ((H.out _ (T.out _ (by repeat' (first | (with_reducible exact Below.refl _ _) | (with_reducible assumption) | (with_reducible refine Below.alloc ?_ ?_ _) | (with_reducible refine Below.drew ?_) | (with_reducible refine belowN ?_ _) | (with_reducible refine Below.setCell ?_ ?_ _) | (with_reducible refine belowG ?_ ?_) | (with_reducible exact Nat.le_refl _) | (with_reducible refine le_sizeG ?_) | (with_reducible refine le_sizeA ?_) | (with_reducible refine le_sizeC ?_) | (with_reducible refine le_sizeD ?_) | (with_reducible refine le_sizeN ?_) | go_size | (simp [go_sem]; done)))).out).out).mono ?_); intro e w1 hr; obtain ⟨rfl, p, rfl⟩ := hr.out; clear hr; skip)
  go_returns
  exact ⟨rfl, by repeat' (first | (with_reducible exact Below.refl _ _) | (with_reducible assumption) | (with_reducible refine Below.alloc ?_ ?_ _) | (with_reducible refine Below.drew ?_) | (with_reducible refine belowN ?_ _) | (with_reducible refine Below.setCell ?_ ?_ _) | (with_reducible refine belowG ?_ ?_) | (with_reducible exact Nat.le_refl _) | (with_reducible refine le_sizeG ?_) | (with_reducible refine le_sizeA ?_) | (with_reducible refine le_sizeC ?_) | (with_reducible refine le_sizeD ?_) | (with_reducible refine le_sizeN ?_) | go_size | (simp [go_sem]; done))⟩
theorem show_b (n : Int) (s : ByteArray) (hn : n = 0 ∨ n = 1) (w : World) : Calls Tryz.prog 81 #[.agg #[.int .i64 2, .int .i64 n, .string s]] w (Ret (.string (boolS (n == 1))) w) := by
  have y0 := Lib.hid (show yesB 2 0 = false by decide)
  have y1 := Lib.hid (show yesB 2 1 = true by decide)
  rcases hn with rfl | rfl
  all_goals
    go_enter Tryz.func81, Tryz.ntmps81
    go_wp2_with (first | ((with_reducible refine (yes_any 2 0 _ _).mono ?_); intro e w1 hr; obtain ⟨rfl, p, rfl⟩ := hr.out; clear hr; rw [y0.out]) | ((with_reducible refine (yes_any 2 1 _ _).mono ?_); intro e w1 hr; obtain ⟨rfl, p, rfl⟩ := hr.out; clear hr; rw [y1.out]) | ((with_reducible refine (fmtBool_any _ _).mono ?_); rintro e w1 ⟨rfl, rfl⟩))
    go_returns
    exact ⟨rfl, by repeat' (first | (with_reducible exact Below.refl _ _) | (with_reducible assumption) | (with_reducible refine Below.alloc ?_ ?_ _) | (with_reducible refine Below.drew ?_) | (with_reducible refine belowN ?_ _) | (with_reducible refine Below.setCell ?_ ?_ _) | (with_reducible refine belowG ?_ ?_) | (with_reducible exact Nat.le_refl _) | (with_reducible refine le_sizeG ?_) | (with_reducible refine le_sizeA ?_) | (with_reducible refine le_sizeC ?_) | (with_reducible refine le_sizeD ?_) | (with_reducible refine le_sizeN ?_) | go_size | (simp [go_sem]; done))⟩
theorem show_any (k n : Int) (s : ByteArray) (hr : rightB k n s = true) (hn : I64 n) (w : World) (ht : Tab w) : Calls Tryz.prog 81 #[.agg #[.int .i64 k, .int .i64 n, .string s]] w (Ret (.string (showS k n s)) w) := by
  rcases right_cases k n s hr with ⟨rfl, _⟩ | ⟨rfl, _, h⟩ | ⟨rfl, _, _, h⟩
  · exact show_n n s hn w ht
  · exact show_b n s h w
  · exact show_s n s w (by omega)
end Go.Proofs.YtmdjlngdpjjfiaaGreatDoor
