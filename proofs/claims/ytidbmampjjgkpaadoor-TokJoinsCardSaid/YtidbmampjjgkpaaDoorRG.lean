import Derived.Test.YtidbmampjjgkpaaDoorRF
import Derived.Test.YtidbmampjjgkpaaDoorTB
import Derived.WalkKit
import Derived.ProofKit
import Derived.OpenShut
import Derived.Handy
import Derived.BigQuiet
import Derived.Lib.Hide
import Derived.Lib.Strings
import Derived.Lib.ParseIntBTie
import Derived.Lib.AtoiErrMem
import Derived.WalkSmall
import Derived.WalkLawsBesides
namespace Go.Proofs.YtidbmampjjgkpaaDoor
open Go.RowKit
/-- The library's two errors of numbers hold something. -/
def Errs (w : World) : Prop := (∃ t p, w.var? Tryd.prog "strconv.ErrSyntax" = some #[.iface t p]) ∧ ∃ t p, w.var? Tryd.prog "strconv.ErrRange" = some #[.iface t p]
theorem global_lt {w : World} {n : String} {g : Nat} {cs : Array Value} (hg : Tryd.prog.globalNamed n = some g) (h : w.var? Tryd.prog n = some cs) : g < w.heap.size := by
  rcases Nat.lt_or_ge g w.heap.size with h1 | h1
  · exact h1
  · unfold World.var? at h
    rw [hg] at h
    simp only [Option.bind_some] at h
    rw [Array.getElem?_eq_none h1] at h
    cases h
theorem errs_below {w w' : World} (h : Errs w) (hb : Below w.heap.size w w') : Errs w' := by
  obtain ⟨⟨t1, p1, h1⟩, t2, p2, h2⟩ := h
  have g1 : Tryd.prog.globalNamed "strconv.ErrSyntax" = some 2 := by kernel_rfl
  have g2 : Tryd.prog.globalNamed "strconv.ErrRange" = some 3 := by kernel_rfl
  exact ⟨⟨t1, p1, var?_below hb g1 (global_lt g1 h1) h1⟩, t2, p2, var?_below hb g2 (global_lt g2 h2) h2⟩
/-- What ParseInt says of what is no number of 64 bits: some error. -/
def BadIs (w : World) (e : Ending) (w' : World) : Prop := ∃ x t n, e = .returned (.tuple #[.int .i64 x, .iface t (.pointer (some ⟨n, 0, none⟩))]) ∧ Below w.heap.size w w'
theorem BadIs.out {w : World} {e : Ending} {w' : World} (h : BadIs w e w') : ∃ x t n p, e = .returned (.tuple #[.int .i64 x, .iface t (.pointer (some ⟨n, 0, none⟩))]) ∧ w' = G p w := by
  obtain ⟨x, t, n, he, hb⟩ := h
  obtain ⟨p, hp⟩ := toG hb
  exact ⟨x, t, n, p, he, hp⟩
theorem parse_ok (s : ByteArray) (hs : s.size ≤ 281474976710656) (v : Int) (h : Lib.parseIntB 64 s.data.toList = .ok v) (w : World) : Calls Tryd.prog 79 #[.string s, .int .i64 10, .int .i64 64] w (Ret (.tuple #[.int .i64 v, .nilIface]) w) :=
  (Any.strconv_ParseInt_10_at64_ok Tryd.laysC174 s (by omega) v h w).mono fun _ _ ⟨he, hw⟩ => ⟨he, by
    rcases hw with rfl | ⟨x, rfl⟩
    · exact Below.refl _ _
    · exact Lib.bytesWorld_below _ _ _⟩
theorem parse_bad (s : ByteArray) (hs : s.size ≤ 281474976710656) (h : ∀ v, Lib.parseIntB 64 s.data.toList ≠ .ok v) (w : World) (hw : Errs w) : Calls Tryd.prog 79 #[.string s, .int .i64 10, .int .i64 64] w (BadIs w) := by
  obtain ⟨⟨t1, p1, h1⟩, t2, p2, h2⟩ := hw
  rcases hp : Lib.parseIntB 64 s.data.toList with v | _ | _
  · exact absurd hp (h v)
  · exact (Any.strconv_ParseInt_10_at64_syntax_var Tryd.laysC174 s hs hp t1 p1 w h1).mono fun _ _ ⟨n, he, _, _, hb⟩ => ⟨_, _, n, he, hb⟩
  · exact (Any.strconv_ParseInt_10_at64_range_var Tryd.laysC174 s hs hp t2 p2 w h2).mono fun _ _ ⟨n, he, _, _, hb⟩ => ⟨_, _, n, he, hb⟩
/-- guess's answer: some value. -/
def SomeV (m : Nat) (w : World) (e : Ending) (w' : World) : Prop := ∃ k n t, e = .returned (.agg #[.int .i64 k, .int .i64 n, .string t]) ∧ I64 n ∧ t.size ≤ m ∧ Below w.heap.size w w'
theorem guess_other (s : ByteArray) (hs : s.size ≤ 281474976710656) (h1 : (s.toList == [116, 114, 117, 101]) = false) (h2 : (s.toList == [102, 97, 108, 115, 101]) = false) (w : World) (hw : Errs w) : Calls Tryd.prog 57 #[.string s] w (SomeV s.size w) := by
  have z0 : I64 0 := by unfold I64; omega
  by_cases hq : ∃ h : 2 ≤ s.size, s[0] = 39
  · obtain ⟨h3, h4⟩ := hq
    refine (guess_q s (s.extract 1 (s.size - 1)) w h1 h2 h3 (by omega) h4 rfl).mono fun e w' ⟨he, hb⟩ => ⟨3, 0, _, he, z0, ?_, hb⟩
    rw [ByteArray.size_extract]; omega
  · have h5 : s.size < 2 ∨ ∃ h : 2 ≤ s.size, ((s[0].toNat : Int) == 39) = false := by
      rcases Nat.lt_or_ge s.size 2 with h6 | h6
      · exact .inl h6
      · refine .inr ⟨h6, ?_⟩
        rw [beq_eq_false_iff_ne]
        intro h
        exact hq ⟨h6, UInt8.toNat_inj.1 (by have : (39 : UInt8).toNat = 39 := rfl
                                            omega)⟩
    clear hq
    have O := fun n wx => Lib.hid (of_any n wx)
    replace O := Lib.hid O
    by_cases hp : ∃ v, Lib.parseIntB 64 s.data.toList = .ok v
    · obtain ⟨v, hp⟩ := hp
      have hv : I64 v := by
        have := Lib.parseIntB_bounds hp
        unfold I64
        omega
      have H := fun wx => Lib.hid (parse_ok s hs v hp wx)
      replace H := Lib.hid H
      replace hv := Lib.hid hv
      clear hp
      rcases h5 with h5 | ⟨h5, h6⟩
      · go_enter Tryd.func57, Tryd.ntmps57
        go_wp2_with (first | ((with_reducible refine ((O.out _ _).out).mono ?_); intro e w1 hr; obtain ⟨rfl, p, rfl⟩ := hr.out; clear hr) | ((with_reducible refine ((H.out _).out).mono ?_); intro e w1 hr; obtain ⟨rfl, p, rfl⟩ := hr.out; clear hr))
        go_returns
        exact ⟨1, v, _, rfl, hv.out, Nat.zero_le _, by repeat' (first | (with_reducible exact Below.refl _ _) | (with_reducible assumption) | (with_reducible refine Below.alloc ?_ ?_ _) | (with_reducible refine Below.drew ?_) | (with_reducible refine belowN ?_ _) | (with_reducible refine Below.setCell ?_ ?_ _) | (with_reducible refine belowG ?_ ?_) | (with_reducible exact Nat.le_refl _) | (with_reducible refine le_sizeG ?_) | (with_reducible refine le_sizeA ?_) | (with_reducible refine le_sizeC ?_) | (with_reducible refine le_sizeD ?_) | (with_reducible refine le_sizeN ?_) | go_size | (simp [go_sem]; done))⟩
      · go_enter Tryd.func57, Tryd.ntmps57
        go_wp2_with (first | ((with_reducible refine ((O.out _ _).out).mono ?_); intro e w1 hr; obtain ⟨rfl, p, rfl⟩ := hr.out; clear hr) | ((with_reducible refine ((H.out _).out).mono ?_); intro e w1 hr; obtain ⟨rfl, p, rfl⟩ := hr.out; clear hr))
        go_returns
        exact ⟨1, v, _, rfl, hv.out, Nat.zero_le _, by repeat' (first | (with_reducible exact Below.refl _ _) | (with_reducible assumption) | (with_reducible refine Below.alloc ?_ ?_ _) | (with_reducible refine Below.drew ?_) | (with_reducible refine belowN ?_ _) | (with_reducible refine Below.setCell ?_ ?_ _) | (with_reducible refine belowG ?_ ?_) | (with_reducible exact Nat.le_refl _) | (with_reducible refine le_sizeG ?_) | (with_reducible refine le_sizeA ?_) | (with_reducible refine le_sizeC ?_) | (with_reducible refine le_sizeD ?_) | (with_reducible refine le_sizeN ?_) | go_size | (simp [go_sem]; done))⟩
    · have H := fun wx h => Lib.hid (parse_bad s hs (fun v hv => hp ⟨v, hv⟩) wx (errs_below hw h))
      replace H := Lib.hid H
      replace z0 := Lib.hid z0
      clear hp hw
      rcases h5 with h5 | ⟨h5, h6⟩
      · go_enter Tryd.func57, Tryd.ntmps57
        go_wp2_with (first | ((with_reducible refine ((O.out _ _).out).mono ?_); intro e w1 hr; obtain ⟨rfl, p, rfl⟩ := hr.out; clear hr) | ((with_reducible refine ((H.out _ (by repeat' (first | (with_reducible exact Below.refl _ _) | (with_reducible assumption) | (with_reducible refine Below.alloc ?_ ?_ _) | (with_reducible refine Below.drew ?_) | (with_reducible refine belowN ?_ _) | (with_reducible refine Below.setCell ?_ ?_ _) | (with_reducible refine belowG ?_ ?_) | (with_reducible exact Nat.le_refl _) | (with_reducible refine le_sizeG ?_) | (with_reducible refine le_sizeA ?_) | (with_reducible refine le_sizeC ?_) | (with_reducible refine le_sizeD ?_) | (with_reducible refine le_sizeN ?_) | go_size | (simp [go_sem]; done)))).out).mono ?_); intro e w1 hr; obtain ⟨x, t, n, p, rfl, rfl⟩ := hr.out; clear hr; skip))
        go_returns
        exact ⟨0, 0, _, rfl, z0.out, Nat.zero_le _, by repeat' (first | (with_reducible exact Below.refl _ _) | (with_reducible assumption) | (with_reducible refine Below.alloc ?_ ?_ _) | (with_reducible refine Below.drew ?_) | (with_reducible refine belowN ?_ _) | (with_reducible refine Below.setCell ?_ ?_ _) | (with_reducible refine belowG ?_ ?_) | (with_reducible exact Nat.le_refl _) | (with_reducible refine le_sizeG ?_) | (with_reducible refine le_sizeA ?_) | (with_reducible refine le_sizeC ?_) | (with_reducible refine le_sizeD ?_) | (with_reducible refine le_sizeN ?_) | go_size | (simp [go_sem]; done))⟩
      · go_enter Tryd.func57, Tryd.ntmps57
        go_wp2_with (first | ((with_reducible refine ((O.out _ _).out).mono ?_); intro e w1 hr; obtain ⟨rfl, p, rfl⟩ := hr.out; clear hr) | ((with_reducible refine ((H.out _ (by repeat' (first | (with_reducible exact Below.refl _ _) | (with_reducible assumption) | (with_reducible refine Below.alloc ?_ ?_ _) | (with_reducible refine Below.drew ?_) | (with_reducible refine belowN ?_ _) | (with_reducible refine Below.setCell ?_ ?_ _) | (with_reducible refine belowG ?_ ?_) | (with_reducible exact Nat.le_refl _) | (with_reducible refine le_sizeG ?_) | (with_reducible refine le_sizeA ?_) | (with_reducible refine le_sizeC ?_) | (with_reducible refine le_sizeD ?_) | (with_reducible refine le_sizeN ?_) | go_size | (simp [go_sem]; done)))).out).mono ?_); intro e w1 hr; obtain ⟨x, t, n, p, rfl, rfl⟩ := hr.out; clear hr; skip))
        go_returns
        exact ⟨0, 0, _, rfl, z0.out, Nat.zero_le _, by repeat' (first | (with_reducible exact Below.refl _ _) | (with_reducible assumption) | (with_reducible refine Below.alloc ?_ ?_ _) | (with_reducible refine Below.drew ?_) | (with_reducible refine belowN ?_ _) | (with_reducible refine Below.setCell ?_ ?_ _) | (with_reducible refine belowG ?_ ?_) | (with_reducible exact Nat.le_refl _) | (with_reducible refine le_sizeG ?_) | (with_reducible refine le_sizeA ?_) | (with_reducible refine le_sizeC ?_) | (with_reducible refine le_sizeD ?_) | (with_reducible refine le_sizeN ?_) | go_size | (simp [go_sem]; done))⟩
theorem toList_ne {a b : ByteArray} (h : a ≠ b) : (a.toList == b.toList) = false := by
  rw [Lib.toList_data, Lib.toList_data, beq_eq_false_iff_ne]
  intro h1
  exact h (ByteArray.ext (Array.ext' h1))
/-- What shows no value isn't read. -/
theorem read_none (s : ByteArray) (hs : s.size ≤ 300) (hno : ∀ k n t, ¬ Shown s k n t) (w : World) (hw : Errs w) (ht : Tab w) : Calls Tryd.prog 22 #[.string s] w (Ret (.tuple #[.agg #[.int .i64 0, .int .i64 0, .string ⟨#[]⟩], .int .i64 11]) w) := by
  have b1 : s ≠ boolS true := fun h => hno 2 1 ⟨#[]⟩ ⟨by decide +kernel, by unfold I64; omega, h.symm⟩
  have b2 : s ≠ boolS false := fun h => hno 2 0 ⟨#[]⟩ ⟨by decide +kernel, by unfold I64; omega, h.symm⟩
  have h1 : (s.toList == [116, 114, 117, 101]) = false := by rw [← show (boolS true).toList = [116, 114, 117, 101] from (Lib.toList_data _).trans rfl]; exact toList_ne b1
  have h2 : (s.toList == [102, 97, 108, 115, 101]) = false := by rw [← show (boolS false).toList = [102, 97, 108, 115, 101] from (Lib.toList_data _).trans rfl]; exact toList_ne b2
  have H := fun wx h => Lib.hid (guess_other s (by omega) h1 h2 wx (errs_below hw h))
  replace H := Lib.hid H
  have T := fun wx (h : Below w.heap.size w wx) => Lib.hid (tab_below ht h)
  replace T := Lib.hid T
  replace hno := Lib.hid hno
  clear b1 b2 h1 h2 hw ht
  go_enter Tryd.func22, Tryd.ntmps22
  go_wp2_with fail
  refine ((H.out _ (by repeat' (first | (with_reducible exact Below.refl _ _) | (with_reducible assumption) | (with_reducible refine Below.alloc ?_ ?_ _) | (with_reducible refine Below.drew ?_) | (with_reducible refine belowN ?_ _) | (with_reducible refine Below.setCell ?_ ?_ _) | (with_reducible refine belowG ?_ ?_) | (with_reducible exact Nat.le_refl _) | (with_reducible refine le_sizeG ?_) | (with_reducible refine le_sizeA ?_) | (with_reducible refine le_sizeC ?_) | (with_reducible refine le_sizeD ?_) | (with_reducible refine le_sizeN ?_) | go_size | (simp [go_sem]; done)))).out).mono ?_
  intro e w1 hr
  obtain ⟨k, n, t, rfl, hn, hz, hb⟩ := hr
  obtain ⟨p, rfl⟩ := toG hb
  clear hb
  have R := fun wx => Lib.hid (right_any k n t wx (by unfold maxLen; omega))
  replace R := Lib.hid R
  rcases hr : rightB k n t
  · rw [hr] at R
    go_wp2_with (first | ((with_reducible refine ((R.out _).out).mono ?_); intro e w1 hr; obtain ⟨rfl, p, rfl⟩ := hr.out; clear hr))
    go_returns
    exact ⟨rfl, by repeat' (first | (with_reducible exact Below.refl _ _) | (with_reducible assumption) | (with_reducible refine Below.alloc ?_ ?_ _) | (with_reducible refine Below.drew ?_) | (with_reducible refine belowN ?_ _) | (with_reducible refine Below.setCell ?_ ?_ _) | (with_reducible refine belowG ?_ ?_) | (with_reducible exact Nat.le_refl _) | (with_reducible refine le_sizeG ?_) | (with_reducible refine le_sizeA ?_) | (with_reducible refine le_sizeC ?_) | (with_reducible refine le_sizeD ?_) | (with_reducible refine le_sizeN ?_) | go_size | (simp [go_sem]; done))⟩
  · have hne : showS k n t ≠ s := fun h => hno.out k n t ⟨hr, hn, h⟩
    have S := fun wx (h : Tab wx) => Lib.hid (show_any k n t hr hn wx h)
    replace S := Lib.hid S
    rw [hr] at R
    have hq := toList_ne hne
    clear hr hne hn
    generalize showS k n t = y at *
    go_wp2_with (first | ((with_reducible refine ((R.out _).out).mono ?_); intro e w1 hr; obtain ⟨rfl, p, rfl⟩ := hr.out; clear hr) | ((with_reducible refine ((S.out _ (T.out _ (by repeat' (first | (with_reducible exact Below.refl _ _) | (with_reducible assumption) | (with_reducible refine Below.alloc ?_ ?_ _) | (with_reducible refine Below.drew ?_) | (with_reducible refine belowN ?_ _) | (with_reducible refine Below.setCell ?_ ?_ _) | (with_reducible refine belowG ?_ ?_) | (with_reducible exact Nat.le_refl _) | (with_reducible refine le_sizeG ?_) | (with_reducible refine le_sizeA ?_) | (with_reducible refine le_sizeC ?_) | (with_reducible refine le_sizeD ?_) | (with_reducible refine le_sizeN ?_) | go_size | (simp [go_sem]; done)))).out).out).mono ?_); intro e w1 hr; obtain ⟨rfl, p, rfl⟩ := hr.out; clear hr; skip))
    go_returns
    exact ⟨rfl, by repeat' (first | (with_reducible exact Below.refl _ _) | (with_reducible assumption) | (with_reducible refine Below.alloc ?_ ?_ _) | (with_reducible refine Below.drew ?_) | (with_reducible refine belowN ?_ _) | (with_reducible refine Below.setCell ?_ ?_ _) | (with_reducible refine belowG ?_ ?_) | (with_reducible exact Nat.le_refl _) | (with_reducible refine le_sizeG ?_) | (with_reducible refine le_sizeA ?_) | (with_reducible refine le_sizeC ?_) | (with_reducible refine le_sizeD ?_) | (with_reducible refine le_sizeN ?_) | go_size | (simp [go_sem]; done))⟩
end Go.Proofs.YtidbmampjjgkpaaDoor
