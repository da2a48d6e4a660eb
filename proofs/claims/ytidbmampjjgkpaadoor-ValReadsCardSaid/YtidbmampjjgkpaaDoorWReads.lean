import Derived.Test.YtidbmampjjgkpaaDoorRG
import Derived.Test.YtidbmampjjgkpaaDoorAN
import Derived.WalkKit
import Derived.ProofKit
import Derived.OpenShut
import Derived.Handy
import Derived.BigQuiet
import Derived.Lib.Hide
import Derived.Lib.Strings
import Derived.WalkSmall
import Derived.Stop.LaidErr
import Derived.WalkLawsBesides
namespace Go.Proofs.YtidbmampjjgkpaaDoor
open Go.RowKit
theorem last_of (q : ByteArray) (l : List UInt8) (c : UInt8) (e : q = ⟨(l ++ [c]).toArray⟩) (h : q.size - 1 < q.size) : q[q.size - 1]'h = c := by
  subst e
  have e2 : (⟨(l ++ [c]).toArray⟩ : ByteArray).size = l.length + 1 := by show (l ++ [c]).toArray.size = _; simp
  show (l ++ [c]).toArray[(⟨(l ++ [c]).toArray⟩ : ByteArray).size - 1]'_ = c
  simp only [e2, Nat.add_sub_cancel]
  simp
theorem quote_last (s : ByteArray) (h : (quote s).size - 1 < (quote s).size) : (quote s)[(quote s).size - 1]'h = 39 :=
  last_of (quote s) ((39 : UInt8) :: s.data.toList) 39 (by rw [quote_list]; rfl) h
theorem rread_shown (k n : Int) (t : ByteArray) (hr : rightB k n t = true) (hn : I64 n) (w : World) : Calls Tryd.prog 23 #[.string (showS k n t)] w (Ret (.tuple #[.agg #[.int .i64 k, .int .i64 n, .string t], .int .i64 0]) w) := by
  have hp := right_cases k n t hr
  rcases hp with ⟨rfl, rfl⟩ | ⟨rfl, rfl, rfl | rfl⟩ | ⟨rfl, rfl, h⟩
  · have z := itoaS_size hn
    obtain ⟨c, r, he, c1, c2⟩ := itoa_head n
    have e : itoaS n = ⟨(c :: r).toArray⟩ := by rw [itoaS, he]
    have h1 : ((itoaS n).toList == [116, 114, 117, 101]) = false := by
      rw [e]; exact first_not _ _ _ _ (by rintro rfl; revert c2; decide)
    have h2 : ((itoaS n).toList == [102, 97, 108, 115, 101]) = false := by
      rw [e]; exact first_not _ _ _ _ (by rintro rfl; revert c2; decide)
    obtain ⟨h3, h4⟩ : ∃ h : 0 < (itoaS n).size, (((itoaS n)[0].toNat : Int) == 39) = false := by
      generalize itoaS n = t at *
      subst e
      refine ⟨Nat.succ_pos _, ?_⟩
      rw [first_at, beq_eq_false_iff_ne]
      omega
    exact rread_n (itoaS n) n h1 h2 h3 h4 (fun wx => number_shown n hn _ (by omega) rfl wx) w
  · exact rread_b false w
  · exact rread_b true w
  · have hpl : plainB t.data.toList = true := by
      have : rightB 3 0 t = plainB t.data.toList := by simp [rightB]
      rw [← this]; exact hr
    exact rread_q (quote t) t (by rw [quote_list]; exact first_not _ _ _ _ (by decide)) (by rw [quote_list]; exact first_not _ _ _ _ (by decide)) (by rw [quote_size]; omega) (by rw [quote_size]; omega)
      (first_of _ _ _ (quote_list t) _) (quote_last t _) (quote_mid t) hpl w
theorem quote_of (q : ByteArray) (h3 : 2 ≤ q.size) (h4 : q[0] = 39) (hl : q[q.size - 1] = 39) : quote (q.extract 1 (q.size - 1)) = q := by
  rw [quote_list]
  apply ByteArray.ext
  apply Array.ext'
  show (39 : UInt8) :: ((q.extract 1 (q.size - 1)).data.toList ++ [39]) = q.data.toList
  have e0 : q.data.toList = q[0] :: q.data.toList.drop 1 := by
    have := drop_at q 0 (by omega)
    simpa using this
  have e1 : (q.extract 1 (q.size - 1)).data.toList = (q.data.toList.drop 1).take (q.size - 1 - 1) := by rw [Lib.extract_eq]
  have e2 : (q.data.toList.drop 1).drop (q.size - 1 - 1) = [39] := by
    rw [List.drop_drop, show 1 + (q.size - 1 - 1) = q.size - 1 by omega, drop_at q (q.size - 1) (by omega), hl, List.drop_of_length_le (by simp; omega)]
  rw [e1, e0, h4, List.drop_succ_cons, List.drop_zero] at *
  rw [← e2, List.take_append_drop]
theorem rread_unshown (s : ByteArray) (hs : s.size ≤ 300) (hno : ∀ k n t, ¬ Shown s k n t) (w : World) : Calls Tryd.prog 23 #[.string s] w (Ret (.tuple #[.agg #[.int .i64 0, .int .i64 0, .string ⟨#[]⟩], .int .i64 11]) w) := by
  have b1 : s ≠ boolS true := fun h => hno 2 1 ⟨#[]⟩ ⟨by decide +kernel, by unfold I64; omega, h.symm⟩
  have b2 : s ≠ boolS false := fun h => hno 2 0 ⟨#[]⟩ ⟨by decide +kernel, by unfold I64; omega, h.symm⟩
  have h1 : (s.toList == [116, 114, 117, 101]) = false := by rw [← show (boolS true).toList = [116, 114, 117, 101] from (Lib.toList_data _).trans rfl]; exact toList_ne b1
  have h2 : (s.toList == [102, 97, 108, 115, 101]) = false := by rw [← show (boolS false).toList = [102, 97, 108, 115, 101] from (Lib.toList_data _).trans rfl]; exact toList_ne b2
  by_cases hq : ∃ h : 2 ≤ s.size, s[0] = 39 ∧ s[s.size - 1] = 39
  · obtain ⟨h3, h4, hl⟩ := hq
    refine rread_bad s (s.extract 1 (s.size - 1)) h1 h2 h3 (by omega) h4 hl rfl ?_ w
    rw [← Bool.not_eq_true]
    intro hp
    refine hno 3 0 (s.extract 1 (s.size - 1)) ⟨?_, by unfold I64; omega, quote_of s h3 h4 hl⟩
    have : rightB 3 0 (s.extract 1 (s.size - 1)) = plainB (s.extract 1 (s.size - 1)).data.toList := by simp [rightB]
    rw [this]; exact hp
  · refine rread_none s h1 h2 (by omega) hq (fun wx => number_none s (by omega) (fun n hn he => ?_) wx) w
    refine hno 1 n ⟨#[]⟩ ⟨?_, hn, he.symm⟩
    simp [rightB]
theorem reads_long (s : ByteArray) (hz : s.size ≤ maxLen) (h : 300 < s.size) (w : World) : Calls Tryd.prog 4 #[.string s] w (Ret (.bool true) w) := by
  unfold maxLen at hz
  go_enter Tryd.func4, Tryd.ntmps4
  go_wp2_with ((with_reducible refine (anchor_any _).mono ?_); intro e w1 hr; obtain ⟨rfl, p, rfl⟩ := hr.out; clear hr)
  go_returns
  exact ⟨rfl, by repeat' (first | (with_reducible exact Below.refl _ _) | (with_reducible assumption) | (with_reducible refine Below.alloc ?_ ?_ _) | (with_reducible refine Below.drew ?_) | (with_reducible refine belowN ?_ _) | (with_reducible refine Below.setCell ?_ ?_ _) | (with_reducible refine belowG ?_ ?_) | (with_reducible exact Nat.le_refl _) | (with_reducible refine le_sizeG ?_) | (with_reducible refine le_sizeA ?_) | (with_reducible refine le_sizeC ?_) | (with_reducible refine le_sizeD ?_) | (with_reducible refine le_sizeN ?_) | go_size | (simp [go_sem]; done))⟩
set_option maxRecDepth 100000 in
set_option maxHeartbeats 1000000 in
theorem reads_as (s : ByteArray) (h' : s.size ≤ 300) (k n : Int) (t : ByteArray) (e : Int) (w : World)
    (D : ∀ wx, Below w.heap.size w wx → Calls Tryd.prog 22 #[.string s] wx (Ret (.tuple #[.agg #[.int .i64 k, .int .i64 n, .string t], .int .i64 e]) wx))
    (E : ∀ wx, Calls Tryd.prog 23 #[.string s] wx (Ret (.tuple #[.agg #[.int .i64 k, .int .i64 n, .string t], .int .i64 e]) wx))
    (hend : (e == 0) = false ∨ e = 0 ∧ (∀ wx, Below w.heap.size w wx → Calls Tryd.prog 24 #[.agg #[.int .i64 k, .int .i64 n, .string t]] wx (Ret (.string s) wx)) ∧
      ∀ wx, Calls Tryd.prog 21 #[.agg #[.int .i64 k, .int .i64 n, .string t]] wx (Ret (.bool true) wx)) :
    Calls Tryd.prog 4 #[.string s] w (Ret (.bool true) w) := by
  replace D := Lib.hid D
  replace E := Lib.hid E
  replace hend := Lib.hid hend
  go_enter Tryd.func4, Tryd.ntmps4
  go_upto_region 6 with (first | ((with_reducible refine (anchor_any _).mono ?_); intro e w1 hr; obtain ⟨rfl, p, rfl⟩ := hr.out; clear hr) | ((with_reducible refine (D.out _ (by repeat' (first | (with_reducible exact Below.refl _ _) | (with_reducible assumption) | (with_reducible refine Below.alloc ?_ ?_ _) | (with_reducible refine Below.drew ?_) | (with_reducible refine belowN ?_ _) | (with_reducible refine Below.setCell ?_ ?_ _) | (with_reducible refine belowG ?_ ?_) | (with_reducible exact Nat.le_refl _) | (with_reducible refine le_sizeG ?_) | (with_reducible refine le_sizeA ?_) | (with_reducible refine le_sizeC ?_) | (with_reducible refine le_sizeD ?_) | (with_reducible refine le_sizeN ?_) | go_size | (simp [go_sem]; done)))).mono ?_); intro e w1 hr; obtain ⟨rfl, p, rfl⟩ := hr.out; clear hr))
  go_cut [3, 4, 5, 6] (fun v3 v4 v5 v6 wx => ∃ g1 g2 : Nat, v3 = .pointer (some ⟨g1, 0, none⟩) ∧ v4 = .int .i64 e ∧ v5 = .pointer (some ⟨g2, 0, none⟩) ∧ v6 = .int .i64 e ∧ C3 wx g1 k n t ∧ C3 wx g2 k n t ∧ Below w.heap.size w wx)
  case first =>
    go_wp2_with (first | ((with_reducible refine (E.out _).mono ?_); intro e w1 hr; obtain ⟨rfl, p, rfl⟩ := hr.out; clear hr))
    go_meet
    exact ⟨_, _, rfl, rfl, rfl, rfl, ⟨by simp [go_sem], by simp [go_sem], by simp [go_sem], by simp [go_sem]⟩, ⟨by simp [go_sem], by simp [go_sem], by simp [go_sem], by simp [go_sem]⟩, by repeat' (first | (with_reducible exact Below.refl _ _) | (with_reducible assumption) | (with_reducible refine Below.alloc ?_ ?_ _) | (with_reducible refine Below.drew ?_) | (with_reducible refine belowN ?_ _) | (with_reducible refine Below.setCell ?_ ?_ _) | (with_reducible refine belowG ?_ ?_) | (with_reducible exact Nat.le_refl _) | (with_reducible refine le_sizeG ?_) | (with_reducible refine le_sizeA ?_) | (with_reducible refine le_sizeC ?_) | (with_reducible refine le_sizeD ?_) | (with_reducible refine le_sizeN ?_) | go_size | (simp [go_sem]; done))⟩
  case rest =>
    obtain ⟨g1, g2, rfl, rfl, rfl, rfl, ⟨a0, a1, a2, a3⟩, ⟨c0, c1, c2, c3⟩, hb⟩ := hcut
    rename World => wq
    have i1 : InW g1 wq := ⟨a0⟩
    have i2 : InW g2 wq := ⟨c0⟩
    have hz := hb.size
    go_wp2_with fail
    (refine wp_region_G (by kernel_rfl) (by kernel_rfl) ?_; (repeat (go_big_quiet_step (first | exact quietG (ref_any _ _ _ _)))); refine wpQuiet_nil ?_; intro _ hw'; obtain ⟨pg, hw''⟩ := hw'; subst hw'')
    rcases hend.out with he | ⟨rfl, S, R⟩
    · clear hend
      go_wp2
      go_returns
      exact ⟨rfl, by repeat' (first | (with_reducible exact Below.refl _ _) | (with_reducible assumption) | (with_reducible refine Below.alloc ?_ ?_ _) | (with_reducible refine Below.drew ?_) | (with_reducible refine belowN ?_ _) | (with_reducible refine Below.setCell ?_ ?_ _) | (with_reducible refine belowG ?_ ?_) | (with_reducible exact Nat.le_refl _) | (with_reducible refine le_sizeG ?_) | (with_reducible refine le_sizeA ?_) | (with_reducible refine le_sizeC ?_) | (with_reducible refine le_sizeD ?_) | (with_reducible refine le_sizeN ?_) | go_size | (simp [go_sem]; done))⟩
    · clear hend
      replace S := Lib.hid S
      replace R := Lib.hid R
      go_wp2_with (first | ((with_reducible refine (S.out _ (by repeat' (first | (with_reducible exact Below.refl _ _) | (with_reducible assumption) | (with_reducible refine Below.alloc ?_ ?_ _) | (with_reducible refine Below.drew ?_) | (with_reducible refine belowN ?_ _) | (with_reducible refine Below.setCell ?_ ?_ _) | (with_reducible refine belowG ?_ ?_) | (with_reducible exact Nat.le_refl _) | (with_reducible refine le_sizeG ?_) | (with_reducible refine le_sizeA ?_) | (with_reducible refine le_sizeC ?_) | (with_reducible refine le_sizeD ?_) | (with_reducible refine le_sizeN ?_) | go_size | (simp [go_sem]; done)))).mono ?_); intro e w1 hr; obtain ⟨rfl, p, rfl⟩ := hr.out; clear hr) | ((with_reducible refine (R.out _).mono ?_); intro e w1 hr; obtain ⟨rfl, p, rfl⟩ := hr.out; clear hr))
      go_returns
      exact ⟨rfl, by repeat' (first | (with_reducible exact Below.refl _ _) | (with_reducible assumption) | (with_reducible refine Below.alloc ?_ ?_ _) | (with_reducible refine Below.drew ?_) | (with_reducible refine belowN ?_ _) | (with_reducible refine Below.setCell ?_ ?_ _) | (with_reducible refine belowG ?_ ?_) | (with_reducible exact Nat.le_refl _) | (with_reducible refine le_sizeG ?_) | (with_reducible refine le_sizeA ?_) | (with_reducible refine le_sizeC ?_) | (with_reducible refine le_sizeD ?_) | (with_reducible refine le_sizeN ?_) | go_size | (simp [go_sem]; done))⟩
/-- The walk of ValReads: any text is the document's value, or none; what is read shows just this text. -/
theorem reads_walk (s : ByteArray) (z : s.size ≤ maxLen) (w : World) (ht : Tab w) (he : Errs w) : Calls Tryd.prog 4 #[.string s] w (Ret (.bool true) w) := by
  by_cases h : 300 < s.size
  · exact reads_long s z h w
  · by_cases hs : ∃ k n t, Shown s k n t
    · obtain ⟨k, n, t, hr, hn, rfl⟩ := hs
      refine reads_as _ (by omega) k n t 0 w (fun wx hb => read_any k n t hr hn wx (tab_below ht hb)) (fun wx => rread_shown k n t hr hn wx) (.inr ⟨rfl, fun wx hb => show_any k n t hr hn wx (tab_below ht hb), fun wx => ?_⟩)
      have := right_any k n t wx (right_size k n t hr)
      rw [hr] at this
      exact this
    · have hno : ∀ k n t, ¬ Shown s k n t := fun k n t hx => hs ⟨k, n, t, hx⟩
      exact reads_as s (by omega) 0 0 ⟨#[]⟩ 11 w (fun wx hb => read_none s (by omega) hno wx (errs_below he hb) (tab_below ht hb)) (fun wx => rread_unshown s (by omega) hno wx) (.inl (by decide))
end Go.Proofs.YtidbmampjjgkpaaDoor
