import Derived.Test.YtidbmampjjgkpaaDoorV0
import Derived.Test.YtidbmampjjgkpaaDoorU5
import Derived.WalkKit
import Derived.ProofKit
import Derived.OpenShut
import Derived.Handy
import Derived.BigQuiet
import Derived.OwnWalk
import Derived.Lib.Hide
import Derived.WalkSmall
import Derived.WalkLawsBesides
namespace Go.Proofs.YtidbmampjjgkpaaDoor
open Go.RowKit
theorem lexes_long (s : ByteArray) (hz : s.size ≤ maxLen) (h : 1000 < s.size) (w : World) (hw : Lb w) : Calls Tryd.prog 9 #[.string s] w (Ret (.bool true) w) := by
  unfold maxLen at hz
  have A := Lib.hid (anchor2_any w hw)
  clear hw
  go_enter Tryd.func9, Tryd.ntmps9
  go_wp2_with ((with_reducible refine (A.out).mono ?_); intro e w1 hr; obtain ⟨rfl, p, rfl⟩ := hr.out; clear hr)
  go_returns
  exact ⟨rfl, by repeat' (first | (with_reducible exact Below.refl _ _) | (with_reducible assumption) | (with_reducible refine Below.alloc ?_ ?_ _) | (with_reducible refine Below.drew ?_) | (with_reducible refine belowN ?_ _) | (with_reducible refine Below.setCell ?_ ?_ _) | (with_reducible refine belowG ?_ ?_) | (with_reducible exact Nat.le_refl _) | (with_reducible refine le_sizeG ?_) | (with_reducible refine le_sizeA ?_) | (with_reducible refine le_sizeC ?_) | (with_reducible refine le_sizeD ?_) | (with_reducible refine le_sizeN ?_) | go_size | (simp [go_sem]; done))⟩
set_option maxRecDepth 100000 in
theorem lexes_err (s : ByteArray) (h' : s.size ≤ 1000) (x : Int) (j : Nat) (hl : lexT 120 0 s.data.toList = .error (x, j)) (w : World) (hw : Lb w) : Calls Tryd.prog 9 #[.string s] w (Ret (.bool true) w) := by
  have A := Lib.hid (anchor2_any w hw)
  have T := Lib.hid (show ∀ wx, Below w.heap.size w wx → Calls Tryd.prog 33 #[.string s] wx (Ret (.tuple #[.slice none 0 0, .int .i64 x, .int .i64 (j : Int)]) wx) from fun wx h => (tlex_any s (by omega) wx (lb_below hw h)).mono fun e w' hr => (lexIs_err hl).mp hr)
  have U := Lib.hid (show ∀ wx, Calls Tryd.prog 34 #[.string s] wx (Ret (.tuple #[.slice none 0 0, .int .i64 x, .int .i64 (j : Int)]) wx) from fun wx => (ulex_any s (by omega) wx).mono fun e w' hr => (lexIs_err hl).mp hr)
  clear hw hl
  go_enter Tryd.func9, Tryd.ntmps9
  go_wp2_with (first | ((with_reducible refine (A.out).mono ?_); intro e w1 hr; obtain ⟨rfl, p, rfl⟩ := hr.out; clear hr) | ((with_reducible refine (T.out _ (by repeat' (first | (with_reducible exact Below.refl _ _) | (with_reducible assumption) | (with_reducible refine Below.alloc ?_ ?_ _) | (with_reducible refine Below.drew ?_) | (with_reducible refine belowN ?_ _) | (with_reducible refine Below.setCell ?_ ?_ _) | (with_reducible refine belowG ?_ ?_) | (with_reducible exact Nat.le_refl _) | (with_reducible refine le_sizeG ?_) | (with_reducible refine le_sizeA ?_) | (with_reducible refine le_sizeC ?_) | (with_reducible refine le_sizeD ?_) | (with_reducible refine le_sizeN ?_) | go_size | (simp [go_sem]; done)))).mono ?_); intro e w1 hr; obtain ⟨rfl, p, rfl⟩ := hr.out; clear hr) | ((with_reducible refine (U.out _).mono ?_); intro e w1 hr; obtain ⟨rfl, p, rfl⟩ := hr.out; clear hr))
  go_loop [44] (fun v => v = .int .i64 0) (fun _ => 0)
  case atStart => rfl
  case round =>
    subst hrel
    go_wp2
    go_returns
    exact ⟨rfl, by repeat' (first | (with_reducible exact Below.refl _ _) | (with_reducible assumption) | (with_reducible refine Below.alloc ?_ ?_ _) | (with_reducible refine Below.drew ?_) | (with_reducible refine belowN ?_ _) | (with_reducible refine Below.setCell ?_ ?_ _) | (with_reducible refine belowG ?_ ?_) | (with_reducible exact Nat.le_refl _) | (with_reducible refine le_sizeG ?_) | (with_reducible refine le_sizeA ?_) | (with_reducible refine le_sizeC ?_) | (with_reducible refine le_sizeD ?_) | (with_reducible refine le_sizeN ?_) | go_size | (simp [go_sem]; done))⟩
set_option maxRecDepth 100000 in
set_option maxHeartbeats 1000000 in
theorem lexes_ok (s : ByteArray) (h' : s.size ≤ 1000) (ts : List Tk) (hl : lexT 120 0 s.data.toList = .ok ts) (w : World) (hw : Lb w) : Calls Tryd.prog 9 #[.string s] w (Ret (.bool true) w) := by
  have A := Lib.hid (anchor2_any w hw)
  have T := Lib.hid (show ∀ wx, Below w.heap.size w wx → Calls Tryd.prog 33 #[.string s] wx (SlIs ts wx) from fun wx h => (tlex_any s (by omega) wx (lb_below hw h)).mono fun e w' hr => lex_sl hl hr)
  have U := Lib.hid (show ∀ wx, Calls Tryd.prog 34 #[.string s] wx (SlIs ts wx) from fun wx => (ulex_any s (by omega) wx).mono fun e w' hr => lex_sl hl hr)
  have hn := lexT_count hl
  clear hw hl
  go_enter Tryd.func9, Tryd.ntmps9
  go_wp2_with ((with_reducible refine (A.out).mono ?_); intro e w1 hr; obtain ⟨rfl, p, rfl⟩ := hr.out; clear hr)
  refine (T.out _ (by repeat' (first | (with_reducible exact Below.refl _ _) | (with_reducible assumption) | (with_reducible refine Below.alloc ?_ ?_ _) | (with_reducible refine Below.drew ?_) | (with_reducible refine belowN ?_ _) | (with_reducible refine Below.setCell ?_ ?_ _) | (with_reducible refine belowG ?_ ?_) | (with_reducible exact Nat.le_refl _) | (with_reducible refine le_sizeG ?_) | (with_reducible refine le_sizeA ?_) | (with_reducible refine le_sizeC ?_) | (with_reducible refine le_sizeD ?_) | (with_reducible refine le_sizeN ?_) | go_size | (simp [go_sem]; done)))).mono ?_
  intro e w1 hr
  obtain ⟨ao, cap, rfl, h1, hb1⟩ := hr
  go_wp2_with fail
  refine (U.out _).mono ?_
  intro e w2 hr
  obtain ⟨ao2, cap2, rfl, h2, hb2⟩ := hr
  have h1' := Lib.hid (show 0 < ts.length → ∃ g, ao = some ⟨g, 0, none⟩ ∧ g < w2.heap.size ∧ Toks w2 g ts from fun h => by
    obtain ⟨g, hg, hgl, ht⟩ := h1 h
    exact ⟨g, hg, Nat.lt_of_lt_of_le hgl hb2.size, toks_below ht hgl hb2⟩)
  replace h2 := Lib.hid h2
  have hb : Below w.heap.size w w2 := by
    have hb0 := (belowG0 p w).size
    exact (belowG (Below.refl _ w) (Nat.le_refl _)).trans ((hb1.mono hb0).trans (hb2.mono (Nat.le_trans hb0 hb1.size)))
  clear h1 hb1 hb2 A T U
  have hz := hb.size
  go_wp2
  go_loopw [44] (fun v wr => ∃ i : Nat, i ≤ ts.length ∧ v = .int .i64 i ∧ Below w2.heap.size w2 wr) (fun v _ => ts.length - (intOf v).toNat)
  case atStart => exact ⟨0, Nat.zero_le _, rfl, Below.refl _ _⟩
  case round =>
    obtain ⟨i, hi, rfl, hbr⟩ := hrel
    rename World => wr
    have hzr := hbr.size
    by_cases hlt : i < ts.length
    · obtain ⟨g1, rfl, hg1, t1⟩ := h1'.out (by omega)
      obtain ⟨g2, rfl, hg2, t2⟩ := h2.out (by omega)
      obtain ⟨a0, a1, a2, a3⟩ := toks_below t1 hg1 hbr i hlt
      obtain ⟨b0, b1, b2, b3⟩ := toks_below t2 hg2 hbr i hlt
      have i0 : (0 : Int) ≤ (i : Int) := by omega
      have i1 : (i : Int) < (ts.length : Int) := by omega
      have j1 : InW g1 wr := ⟨Nat.lt_of_lt_of_le hg1 hzr⟩
      have j2 : InW g2 wr := ⟨Nat.lt_of_lt_of_le hg2 hzr⟩
      clear t1 t2
      go_wp2_with fail
      (refine wp_region_G (by kernel_rfl) (by kernel_rfl) ?_; (repeat (go_big_quiet_step (fail))); refine wpQuiet_nil ?_; intro _ hw'; obtain ⟨pg, hw''⟩ := hw'; subst hw'')
      go_wp2
      go_roundw
      case rel => exact ⟨i + 1, by omega, by go_num, by repeat' (first | (with_reducible exact Below.refl _ _) | (with_reducible assumption) | (with_reducible refine Below.alloc ?_ ?_ _) | (with_reducible refine Below.drew ?_) | (with_reducible refine belowN ?_ _) | (with_reducible refine Below.setCell ?_ ?_ _) | (with_reducible refine belowG ?_ ?_) | (with_reducible exact Nat.le_refl _) | (with_reducible refine le_sizeG ?_) | (with_reducible refine le_sizeA ?_) | (with_reducible refine le_sizeC ?_) | (with_reducible refine le_sizeD ?_) | (with_reducible refine le_sizeN ?_) | go_size | (simp [go_sem]; done))⟩
      case measure => simp [intOf]; omega
    · obtain rfl : i = ts.length := by omega
      go_wp2
      go_returns
      exact ⟨rfl, hb.trans (hbr.mono hz)⟩
/-- The walk of TokLexes: any line has the document's tokens, or its first wrong one the document's error, at its place. -/
theorem lexes_walk (s : ByteArray) (z : s.size ≤ maxLen) (w : World) (hw : Lb w) : Calls Tryd.prog 9 #[.string s] w (Ret (.bool true) w) := by
  by_cases h : 1000 < s.size
  · exact lexes_long s z h w hw
  · rcases hl : lexT 120 0 s.data.toList with ⟨x, j⟩ | ts
    · exact lexes_err s (by omega) x j hl w hw
    · exact lexes_ok s (by omega) ts hl w hw
end Go.Proofs.YtidbmampjjgkpaaDoor
