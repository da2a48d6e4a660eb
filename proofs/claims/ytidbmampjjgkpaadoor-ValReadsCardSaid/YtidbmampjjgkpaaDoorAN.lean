import Derived.Test.YtidbmampjjgkpaaDoorM1
import Derived.Test.YtidbmampjjgkpaaDoorS1
import Derived.Test.YtidbmampjjgkpaaDoorQ0
import Derived.WalkKit
import Derived.ProofKit
import Derived.OpenShut
import Derived.Handy
import Derived.BigQuiet
import Derived.Lib.Hide
import Derived.Lib.Strings
import Derived.Deep.DeepCutAuto
import Derived.WalkLawsBesides
namespace Go.Proofs.YtidbmampjjgkpaaDoor
open Go.RowKit
/-- The document's examples: -7 Div 2, -7 Rem 2, 'ab' Add 'c'. -/
theorem ex_div : rkV (numR (Int.tdiv (-7) 2)) = .tuple #[.agg #[.int .i64 1, .int .i64 (-3), .string ⟨#[]⟩], .int .i64 0] := by
  have e : Int.tdiv (-7) 2 = -3 := by decide
  have h : inR (-3) = true := by decide
  rw [e]; simp [rkV, numR, nK, nN, nE, h]
theorem ex_rem : rkV ⟨1, Int.tmod (-7) 2, ⟨#[]⟩, 0⟩ = .tuple #[.agg #[.int .i64 1, .int .i64 (-1), .string ⟨#[]⟩], .int .i64 0] := by
  have e : Int.tmod (-7) 2 = -1 := by decide
  rw [e]; rfl
theorem ex_add : rkV (joinR ⟨#[97, 98]⟩ ⟨#[99]⟩) = .tuple #[.agg #[.int .i64 3, .int .i64 0, .string ⟨#[97, 98, 99]⟩], .int .i64 0] := by
  have e : joinR ⟨#[97, 98]⟩ ⟨#[99]⟩ = ⟨3, 0, ⟨#[97, 98, 99]⟩, 0⟩ := by rfl
  rw [e]; rfl
theorem ex_show : quote ⟨#[97, 98, 99]⟩ = ⟨#[39, 97, 98, 99, 39]⟩ := by rfl
theorem i64_m7 : I64 (-7) := by unfold I64; omega
theorem i64_2 : I64 2 := by unfold I64; omega
/-- A struct's three cells. -/
def C3 (w : World) (b : Nat) (k n : Int) (s : ByteArray) : Prop := b < w.heap.size ∧ w.cell? ⟨b, 0, none⟩ = some (.int .i64 k) ∧ w.cell? ⟨b, 1, none⟩ = some (.int .i64 n) ∧ w.cell? ⟨b, 2, none⟩ = some (.string s)
theorem c3_keep {w w1 : World} {b : Nat} {k n : Int} {s : ByteArray} (h : C3 w b k n s) (hb : Below w.heap.size w w1) : C3 w1 b k n s :=
  ⟨Nat.lt_of_lt_of_le h.1 hb.size, (hb.cell (p := ⟨b, 0, none⟩) h.1).trans h.2.1, (hb.cell (p := ⟨b, 1, none⟩) h.1).trans h.2.2.1, (hb.cell (p := ⟨b, 2, none⟩) h.1).trans h.2.2.2⟩
set_option maxHeartbeats 2000000 in
theorem anchor_any (w : World) : Calls Tryd.prog 14 #[] w (Ret (.bool true) w) := by
  go_enter Tryd.func14, Tryd.ntmps14
  go_upto_region 1 with (fail)
  go_cut [1, 2] (fun v1 v2 wx => ∃ b1 : Nat, v1 = .pointer (some ⟨b1, 0, none⟩) ∧ v2 = .int .i64 0 ∧ C3 wx b1 1 (-3) ⟨#[]⟩ ∧ Below w.heap.size w wx)
  case first =>
    go_wp2_with (first | ((with_reducible refine (of_any _ _).mono ?_); intro e w1 hr; obtain ⟨rfl, p, rfl⟩ := hr.out; clear hr) | ((with_reducible refine (word_any _ _).mono ?_); intro e w1 hr; obtain ⟨rfl, p, rfl⟩ := hr.out; clear hr) | ((with_reducible refine (reckon4 (-7) 2 i64_m7 i64_2 (by decide) _ _ (by simp [go_sem]) (by simp [go_sem]) (by simp [go_sem]) (by simp [go_sem])).mono ?_); intro e w1 hr; obtain ⟨rfl, p, rfl⟩ := hr.out; clear hr; rw [ex_div]))
    go_meet
    exact ⟨_, rfl, rfl, ⟨by simp [go_sem], by simp [go_sem], by simp [go_sem], by simp [go_sem]⟩, by repeat' (first | (with_reducible exact Below.refl _ _) | (with_reducible assumption) | (with_reducible refine Below.alloc ?_ ?_ _) | (with_reducible refine Below.drew ?_) | (with_reducible refine belowN ?_ _) | (with_reducible refine Below.setCell ?_ ?_ _) | (with_reducible refine belowG ?_ ?_) | (with_reducible exact Nat.le_refl _) | (with_reducible refine le_sizeG ?_) | (with_reducible refine le_sizeA ?_) | (with_reducible refine le_sizeC ?_) | (with_reducible refine le_sizeD ?_) | (with_reducible refine le_sizeN ?_) | go_size | (simp [go_sem]; done))⟩
  case rest =>
    obtain ⟨b1, rfl, rfl, h1, hb⟩ := hcut
    go_upto_region 2 with (fail)
    go_cut [3, 4] (fun v1 v2 wx => ∃ b3 : Nat, v1 = .pointer (some ⟨b3, 0, none⟩) ∧ v2 = .int .i64 0 ∧ C3 wx b3 1 (-1) ⟨#[]⟩ ∧ C3 wx b1 1 (-3) ⟨#[]⟩ ∧ Below w.heap.size w wx)
    case first =>
      rename World => w2
      go_wp2_with (first | ((with_reducible refine (of_any _ _).mono ?_); intro e w1 hr; obtain ⟨rfl, p, rfl⟩ := hr.out; clear hr) | ((with_reducible refine (word_any _ _).mono ?_); intro e w1 hr; obtain ⟨rfl, p, rfl⟩ := hr.out; clear hr) | ((with_reducible refine (reckon5 (-7) 2 (by decide) _ _ (by simp [go_sem]) (by simp [go_sem]) (by simp [go_sem]) (by simp [go_sem])).mono ?_); intro e w1 hr; obtain ⟨rfl, p, rfl⟩ := hr.out; clear hr; rw [ex_rem]))
      go_meet
      exact ⟨_, rfl, rfl, ⟨by simp [go_sem], by simp [go_sem], by simp [go_sem], by simp [go_sem]⟩, c3_keep h1 (by repeat' (first | (with_reducible exact Below.refl _ _) | (with_reducible assumption) | (with_reducible refine Below.alloc ?_ ?_ _) | (with_reducible refine Below.drew ?_) | (with_reducible refine belowN ?_ _) | (with_reducible refine Below.setCell ?_ ?_ _) | (with_reducible refine belowG ?_ ?_) | (with_reducible exact Nat.le_refl _) | (with_reducible refine le_sizeG ?_) | (with_reducible refine le_sizeA ?_) | (with_reducible refine le_sizeC ?_) | (with_reducible refine le_sizeD ?_) | (with_reducible refine le_sizeN ?_) | go_size | (simp [go_sem]; done))), hb.trans (Below.mono (by repeat' (first | (with_reducible exact Below.refl _ _) | (with_reducible assumption) | (with_reducible refine Below.alloc ?_ ?_ _) | (with_reducible refine Below.drew ?_) | (with_reducible refine belowN ?_ _) | (with_reducible refine Below.setCell ?_ ?_ _) | (with_reducible refine belowG ?_ ?_) | (with_reducible exact Nat.le_refl _) | (with_reducible refine le_sizeG ?_) | (with_reducible refine le_sizeA ?_) | (with_reducible refine le_sizeC ?_) | (with_reducible refine le_sizeD ?_) | (with_reducible refine le_sizeN ?_) | go_size | (simp [go_sem]; done))) hb.size)⟩
    case rest =>
      obtain ⟨b3, rfl, rfl, h3, h1, hb⟩ := hcut
      go_upto_region 3 with (fail)
      go_cut [5, 6] (fun v1 v2 wx => ∃ b5 : Nat, v1 = .pointer (some ⟨b5, 0, none⟩) ∧ v2 = .int .i64 0 ∧ C3 wx b5 3 0 ⟨#[97, 98, 99]⟩ ∧ C3 wx b3 1 (-1) ⟨#[]⟩ ∧ C3 wx b1 1 (-3) ⟨#[]⟩ ∧ Below w.heap.size w wx)
      case first =>
        rename World => w2
        go_wp2_with (first | ((with_reducible refine (of_any _ _).mono ?_); intro e w1 hr; obtain ⟨rfl, p, rfl⟩ := hr.out; clear hr) | ((with_reducible refine (word_any _ _).mono ?_); intro e w1 hr; obtain ⟨rfl, p, rfl⟩ := hr.out; clear hr) | ((with_reducible refine (reckon6s ⟨#[97, 98]⟩ ⟨#[99]⟩ (by decide) (by decide) _ _ (by simp [go_sem]) (by simp [go_sem]) (by simp [go_sem]) (by simp [go_sem])).mono ?_); intro e w1 hr; obtain ⟨rfl, p, rfl⟩ := hr.out; clear hr; rw [ex_add]))
        go_meet
        exact ⟨_, rfl, rfl, ⟨by simp [go_sem], by simp [go_sem], by simp [go_sem], by simp [go_sem]⟩, c3_keep h3 (by repeat' (first | (with_reducible exact Below.refl _ _) | (with_reducible assumption) | (with_reducible refine Below.alloc ?_ ?_ _) | (with_reducible refine Below.drew ?_) | (with_reducible refine belowN ?_ _) | (with_reducible refine Below.setCell ?_ ?_ _) | (with_reducible refine belowG ?_ ?_) | (with_reducible exact Nat.le_refl _) | (with_reducible refine le_sizeG ?_) | (with_reducible refine le_sizeA ?_) | (with_reducible refine le_sizeC ?_) | (with_reducible refine le_sizeD ?_) | (with_reducible refine le_sizeN ?_) | go_size | (simp [go_sem]; done))), c3_keep h1 (by repeat' (first | (with_reducible exact Below.refl _ _) | (with_reducible assumption) | (with_reducible refine Below.alloc ?_ ?_ _) | (with_reducible refine Below.drew ?_) | (with_reducible refine belowN ?_ _) | (with_reducible refine Below.setCell ?_ ?_ _) | (with_reducible refine belowG ?_ ?_) | (with_reducible exact Nat.le_refl _) | (with_reducible refine le_sizeG ?_) | (with_reducible refine le_sizeA ?_) | (with_reducible refine le_sizeC ?_) | (with_reducible refine le_sizeD ?_) | (with_reducible refine le_sizeN ?_) | go_size | (simp [go_sem]; done))), hb.trans (Below.mono (by repeat' (first | (with_reducible exact Below.refl _ _) | (with_reducible assumption) | (with_reducible refine Below.alloc ?_ ?_ _) | (with_reducible refine Below.drew ?_) | (with_reducible refine belowN ?_ _) | (with_reducible refine Below.setCell ?_ ?_ _) | (with_reducible refine belowG ?_ ?_) | (with_reducible exact Nat.le_refl _) | (with_reducible refine le_sizeG ?_) | (with_reducible refine le_sizeA ?_) | (with_reducible refine le_sizeC ?_) | (with_reducible refine le_sizeD ?_) | (with_reducible refine le_sizeN ?_) | go_size | (simp [go_sem]; done))) hb.size)⟩
      case rest =>
        obtain ⟨b5, rfl, rfl, ⟨h50, h51, h52, h53⟩, ⟨h30, h31, h32, h33⟩, ⟨h10, h11, h12, h13⟩, hb⟩ := hcut
        rename World => w2
        go_upto_region 4 with (fail)
        (refine wp_region_G (by kernel_rfl) (by kernel_rfl) ?_; (repeat (go_big_quiet_step (first | exact quietG (of_any _ _) | exact quietG (show_s _ _ _ (by decide))))); refine wpQuiet_nil ?_; intro _ hw'; obtain ⟨pg, hw''⟩ := hw'; subst hw'')
        go_wp2


        go_returns
        have hz := hb.size
        exact ⟨ret_bl (by rw [ex_show, Lib.toList_data]; rfl), by repeat' (first | (with_reducible exact Below.refl _ _) | (with_reducible assumption) | (with_reducible refine Below.alloc ?_ ?_ _) | (with_reducible refine Below.drew ?_) | (with_reducible refine belowN ?_ _) | (with_reducible refine Below.setCell ?_ ?_ _) | (with_reducible refine belowG ?_ ?_) | (with_reducible exact Nat.le_refl _) | (with_reducible refine le_sizeG ?_) | (with_reducible refine le_sizeA ?_) | (with_reducible refine le_sizeC ?_) | (with_reducible refine le_sizeD ?_) | (with_reducible refine le_sizeN ?_) | go_size | (simp [go_sem]; done))⟩
end Go.Proofs.YtidbmampjjgkpaaDoor
