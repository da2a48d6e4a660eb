import Derived.Test.YtidbmampjjgkpaaDoorN1
import Derived.Test.YtidbmampjjgkpaaDoorN2
import Derived.Test.YtidbmampjjgkpaaDoorN3
import Derived.WalkKit
import Derived.ProofKit
import Derived.OpenShut
import Derived.Handy
import Derived.BigQuiet
import Derived.OwnWalk
import Derived.Lib.Hide
import Derived.WalkSmall
import Derived.WalkLawsBesides
namespace Go.Proofs.YtidbmampjjgkpaaDoor
open Go.RowKit
def nmB (l : List UInt8) : Bool := aloneK l == 1 && !meansB l
theorem tname_any (s : ByteArray) (hs : s.size ≤ 100000) (w : World) (hw : Lb w) : Calls Tryd.prog 39 #[.string s] w (Ret (.bool (nmB s.data.toList)) w) := by
  have T := Lib.hid (fun wx h => talone_any s hs wx (lb_below hw h))
  have M := Lib.hid (fun wx => tmeans_any s wx)
  unfold nmB
  generalize aloneK s.data.toList = k at *
  generalize meansB s.data.toList = m at *
  clear hw
  rcases h1 : (k == 1) <;> cases m
  all_goals
    go_enter Tryd.func39, Tryd.ntmps39
    go_wp2_with (first | ((with_reducible refine (T.out _ (by repeat' (first | (with_reducible exact Below.refl _ _) | (with_reducible assumption) | (with_reducible refine Below.alloc ?_ ?_ _) | (with_reducible refine Below.drew ?_) | (with_reducible refine belowN ?_ _) | (with_reducible refine Below.setCell ?_ ?_ _) | (with_reducible refine belowG ?_ ?_) | (with_reducible exact Nat.le_refl _) | (with_reducible refine le_sizeG ?_) | (with_reducible refine le_sizeA ?_) | (with_reducible refine le_sizeC ?_) | (with_reducible refine le_sizeD ?_) | (with_reducible refine le_sizeN ?_) | go_size | (simp [go_sem]; done)))).mono ?_); intro e w1 hr; obtain ⟨rfl, p, rfl⟩ := hr.out; clear hr) | ((with_reducible refine (M.out _).mono ?_); rintro e w1 ⟨rfl, rfl⟩))
    all_goals
      go_returns
      exact ⟨rfl, by repeat' (first | (with_reducible exact Below.refl _ _) | (with_reducible assumption) | (with_reducible refine Below.alloc ?_ ?_ _) | (with_reducible refine Below.drew ?_) | (with_reducible refine belowN ?_ _) | (with_reducible refine Below.setCell ?_ ?_ _) | (with_reducible refine belowG ?_ ?_) | (with_reducible exact Nat.le_refl _) | (with_reducible refine le_sizeG ?_) | (with_reducible refine le_sizeA ?_) | (with_reducible refine le_sizeC ?_) | (with_reducible refine le_sizeD ?_) | (with_reducible refine le_sizeN ?_) | go_size | (simp [go_sem]; done))⟩
set_option maxRecDepth 100000 in
theorem uname_no (s : ByteArray) (w : World) (T : ∀ wx, Calls Tryd.prog 34 #[.string s] wx (NotOneIs wx)) : Calls Tryd.prog 40 #[.string s] w (Ret (.bool false) w) := by
  replace T := Lib.hid T
  go_enter Tryd.func40, Tryd.ntmps40
  go_wp2_with fail
  refine (T.out _).mono ?_
  intro e w1 hr
  obtain ⟨x, j, ao, n, cap, rfl, hx, hb⟩ := hr
  clear T
  rcases hx with hx | ⟨rfl, hn⟩
  · have hx' : ¬ x = 0 := by simpa using hx
    go_wp2
    go_returns
    exact ⟨rfl, by repeat' (first | (with_reducible exact Below.refl _ _) | (with_reducible assumption) | (with_reducible refine Below.alloc ?_ ?_ _) | (with_reducible refine Below.drew ?_) | (with_reducible refine belowN ?_ _) | (with_reducible refine Below.setCell ?_ ?_ _) | (with_reducible refine belowG ?_ ?_) | (with_reducible exact Nat.le_refl _) | (with_reducible refine le_sizeG ?_) | (with_reducible refine le_sizeA ?_) | (with_reducible refine le_sizeC ?_) | (with_reducible refine le_sizeD ?_) | (with_reducible refine le_sizeN ?_) | go_size | (simp [go_sem]; done))⟩
  · have hn' : ¬ (n : Int) = 1 := by simpa using hn
    go_wp2
    go_returns
    exact ⟨rfl, by repeat' (first | (with_reducible exact Below.refl _ _) | (with_reducible assumption) | (with_reducible refine Below.alloc ?_ ?_ _) | (with_reducible refine Below.drew ?_) | (with_reducible refine belowN ?_ _) | (with_reducible refine Below.setCell ?_ ?_ _) | (with_reducible refine belowG ?_ ?_) | (with_reducible exact Nat.le_refl _) | (with_reducible refine le_sizeG ?_) | (with_reducible refine le_sizeA ?_) | (with_reducible refine le_sizeC ?_) | (with_reducible refine le_sizeD ?_) | (with_reducible refine le_sizeN ?_) | go_size | (simp [go_sem]; done))⟩
set_option maxRecDepth 100000 in
set_option maxHeartbeats 1000000 in
theorem uname_yes (s : ByteArray) (hs : s.size ≤ 100000) (t : Tk) (w : World) (T : ∀ wx, Calls Tryd.prog 34 #[.string s] wx (OneIs t wx)) : Calls Tryd.prog 40 #[.string s] w (Ret (.bool ((t.k == 1) && decide (t.s = s.data.toList) && !meansB s.data.toList)) w) := by
  have he := txt_eq t s
  have M := Lib.hid (fun wx => umeans_any s hs wx)
  generalize meansB s.data.toList = m at *
  obtain ⟨d, hd⟩ : ∃ d, decide (t.s = s.data.toList) = d := ⟨_, rfl⟩
  rw [hd] at he ⊢
  clear hd
  unfold OneIs at T
  generalize t.k = k at *
  generalize (⟨t.s.toArray⟩ : ByteArray) = q at *
  replace T := Lib.hid T
  rcases hk : (k == 1) <;> cases d <;> cases m
  all_goals
    go_enter Tryd.func40, Tryd.ntmps40
    go_wp2_with fail
    refine (T.out _).mono ?_
    intro e w1 hr
    obtain ⟨g, cap, rfl, hg, a0, a1, hb⟩ := hr
    have hz := hb.size
    go_wp2_with ((with_reducible refine (M.out _).mono ?_); intro e w1 hr; obtain ⟨rfl, p, rfl⟩ := hr.out; clear hr)
    go_returns
    exact ⟨rfl, by repeat' (first | (with_reducible exact Below.refl _ _) | (with_reducible assumption) | (with_reducible refine Below.alloc ?_ ?_ _) | (with_reducible refine Below.drew ?_) | (with_reducible refine belowN ?_ _) | (with_reducible refine Below.setCell ?_ ?_ _) | (with_reducible refine belowG ?_ ?_) | (with_reducible exact Nat.le_refl _) | (with_reducible refine le_sizeG ?_) | (with_reducible refine le_sizeA ?_) | (with_reducible refine le_sizeC ?_) | (with_reducible refine le_sizeD ?_) | (with_reducible refine le_sizeN ?_) | go_size | (simp [go_sem]; done))⟩
theorem uname_any (s : ByteArray) (hs : s.size ≤ 100000) (w : World) : Calls Tryd.prog 40 #[.string s] w (Ret (.bool (nmB s.data.toList)) w) := by
  unfold nmB
  rcases hl : lexT 120 0 s.data.toList with ⟨x, j⟩ | ts
  · rw [aloneK_err hl]
    exact uname_no s w fun wx => (ulex_any s hs wx).mono fun e w' hr => notOne_err hl hr
  · by_cases hn : ts.length = 1
    · obtain ⟨t, rfl⟩ := List.length_eq_one_iff.1 hn
      have e : (aloneK s.data.toList == 1) = ((t.k == 1) && decide (t.s = s.data.toList)) := by
        rw [aloneK_one hl, Bool.eq_iff_iff]
        simp only [Bool.and_eq_true, beq_iff_eq, decide_eq_true_eq]
        split
        · constructor
          · intro h; exact ⟨h, ‹_›⟩
          · intro h; exact h.1
        · constructor
          · intro h; omega
          · intro h; exact absurd h.2 ‹_›
      rw [e]
      exact uname_yes s hs t w fun wx => (ulex_any s hs wx).mono fun e w' hr => one_of (lex_sl hl hr)
    · rw [aloneK_more hl hn]
      exact uname_no s w fun wx => (ulex_any s hs wx).mono fun e w' hr => notOne_ok hl hn hr
theorem names_long (s : ByteArray) (hz : s.size ≤ maxLen) (h : 1000 < s.size) (w : World) (hw : Lb w) : Calls Tryd.prog 11 #[.string s] w (Ret (.bool true) w) := by
  unfold maxLen at hz
  have A := Lib.hid (anchor2_any w hw)
  clear hw
  go_enter Tryd.func11, Tryd.ntmps11
  go_wp2_with ((with_reducible refine (A.out).mono ?_); intro e w1 hr; obtain ⟨rfl, p, rfl⟩ := hr.out; clear hr)
  go_returns
  exact ⟨rfl, by repeat' (first | (with_reducible exact Below.refl _ _) | (with_reducible assumption) | (with_reducible refine Below.alloc ?_ ?_ _) | (with_reducible refine Below.drew ?_) | (with_reducible refine belowN ?_ _) | (with_reducible refine Below.setCell ?_ ?_ _) | (with_reducible refine belowG ?_ ?_) | (with_reducible exact Nat.le_refl _) | (with_reducible refine le_sizeG ?_) | (with_reducible refine le_sizeA ?_) | (with_reducible refine le_sizeC ?_) | (with_reducible refine le_sizeD ?_) | (with_reducible refine le_sizeN ?_) | go_size | (simp [go_sem]; done))⟩
set_option maxRecDepth 100000 in
set_option maxHeartbeats 1000000 in
theorem names_short (s : ByteArray) (h : s.size ≤ 1000) (w : World) (hw : Lb w) : Calls Tryd.prog 11 #[.string s] w (Ret (.bool true) w) := by
  have A := Lib.hid (anchor2_any w hw)
  have T1 := Lib.hid (show ∀ wx, Below w.heap.size w wx → _ from fun wx h' => tevent_any s (by omega) wx (lb_below hw h'))
  have U1 := Lib.hid (fun wx => uevent_any s (by omega) wx)
  have T2 := Lib.hid (show ∀ wx, Below w.heap.size w wx → _ from fun wx h' => tname_any s (by omega) wx (lb_below hw h'))
  have U2 := Lib.hid (fun wx => uname_any s (by omega) wx)
  have T3 := Lib.hid (fun wx => tmeans_any s wx)
  have U3 := Lib.hid (fun wx => umeans_any s (by omega) wx)
  have hev : nmB s.data.toList = true → evB s.data.toList = true := by
    unfold nmB evB
    rw [Bool.and_eq_true, Bool.or_eq_true]
    exact fun h => .inl h.1
  generalize nmB s.data.toList = a at *
  generalize evB s.data.toList = b at *
  generalize meansB s.data.toList = c at *
  clear hw
  cases a
  · clear hev
    cases b <;> cases c
    all_goals
      go_enter Tryd.func11, Tryd.ntmps11
      go_wp2_with (first | ((with_reducible refine (A.out).mono ?_); intro e w1 hr; obtain ⟨rfl, p, rfl⟩ := hr.out; clear hr) | ((with_reducible refine (T1.out _ (by repeat' (first | (with_reducible exact Below.refl _ _) | (with_reducible assumption) | (with_reducible refine Below.alloc ?_ ?_ _) | (with_reducible refine Below.drew ?_) | (with_reducible refine belowN ?_ _) | (with_reducible refine Below.setCell ?_ ?_ _) | (with_reducible refine belowG ?_ ?_) | (with_reducible exact Nat.le_refl _) | (with_reducible refine le_sizeG ?_) | (with_reducible refine le_sizeA ?_) | (with_reducible refine le_sizeC ?_) | (with_reducible refine le_sizeD ?_) | (with_reducible refine le_sizeN ?_) | go_size | (simp [go_sem]; done)))).mono ?_); intro e w1 hr; obtain ⟨rfl, p, rfl⟩ := hr.out; clear hr) | ((with_reducible refine (U1.out _).mono ?_); intro e w1 hr; obtain ⟨rfl, p, rfl⟩ := hr.out; clear hr) | ((with_reducible refine (T2.out _ (by repeat' (first | (with_reducible exact Below.refl _ _) | (with_reducible assumption) | (with_reducible refine Below.alloc ?_ ?_ _) | (with_reducible refine Below.drew ?_) | (with_reducible refine belowN ?_ _) | (with_reducible refine Below.setCell ?_ ?_ _) | (with_reducible refine belowG ?_ ?_) | (with_reducible exact Nat.le_refl _) | (with_reducible refine le_sizeG ?_) | (with_reducible refine le_sizeA ?_) | (with_reducible refine le_sizeC ?_) | (with_reducible refine le_sizeD ?_) | (with_reducible refine le_sizeN ?_) | go_size | (simp [go_sem]; done)))).mono ?_); intro e w1 hr; obtain ⟨rfl, p, rfl⟩ := hr.out; clear hr) | ((with_reducible refine (U2.out _).mono ?_); intro e w1 hr; obtain ⟨rfl, p, rfl⟩ := hr.out; clear hr) | ((with_reducible refine (T3.out _).mono ?_); rintro e w1 ⟨rfl, rfl⟩) | ((with_reducible refine (U3.out _).mono ?_); intro e w1 hr; obtain ⟨rfl, p, rfl⟩ := hr.out; clear hr))
      go_returns
      exact ⟨rfl, by repeat' (first | (with_reducible exact Below.refl _ _) | (with_reducible assumption) | (with_reducible refine Below.alloc ?_ ?_ _) | (with_reducible refine Below.drew ?_) | (with_reducible refine belowN ?_ _) | (with_reducible refine Below.setCell ?_ ?_ _) | (with_reducible refine belowG ?_ ?_) | (with_reducible exact Nat.le_refl _) | (with_reducible refine le_sizeG ?_) | (with_reducible refine le_sizeA ?_) | (with_reducible refine le_sizeC ?_) | (with_reducible refine le_sizeD ?_) | (with_reducible refine le_sizeN ?_) | go_size | (simp [go_sem]; done))⟩
  · obtain rfl : b = true := hev rfl
    clear hev
    cases c
    all_goals
      go_enter Tryd.func11, Tryd.ntmps11
      go_wp2_with (first | ((with_reducible refine (A.out).mono ?_); intro e w1 hr; obtain ⟨rfl, p, rfl⟩ := hr.out; clear hr) | ((with_reducible refine (T1.out _ (by repeat' (first | (with_reducible exact Below.refl _ _) | (with_reducible assumption) | (with_reducible refine Below.alloc ?_ ?_ _) | (with_reducible refine Below.drew ?_) | (with_reducible refine belowN ?_ _) | (with_reducible refine Below.setCell ?_ ?_ _) | (with_reducible refine belowG ?_ ?_) | (with_reducible exact Nat.le_refl _) | (with_reducible refine le_sizeG ?_) | (with_reducible refine le_sizeA ?_) | (with_reducible refine le_sizeC ?_) | (with_reducible refine le_sizeD ?_) | (with_reducible refine le_sizeN ?_) | go_size | (simp [go_sem]; done)))).mono ?_); intro e w1 hr; obtain ⟨rfl, p, rfl⟩ := hr.out; clear hr) | ((with_reducible refine (U1.out _).mono ?_); intro e w1 hr; obtain ⟨rfl, p, rfl⟩ := hr.out; clear hr) | ((with_reducible refine (T2.out _ (by repeat' (first | (with_reducible exact Below.refl _ _) | (with_reducible assumption) | (with_reducible refine Below.alloc ?_ ?_ _) | (with_reducible refine Below.drew ?_) | (with_reducible refine belowN ?_ _) | (with_reducible refine Below.setCell ?_ ?_ _) | (with_reducible refine belowG ?_ ?_) | (with_reducible exact Nat.le_refl _) | (with_reducible refine le_sizeG ?_) | (with_reducible refine le_sizeA ?_) | (with_reducible refine le_sizeC ?_) | (with_reducible refine le_sizeD ?_) | (with_reducible refine le_sizeN ?_) | go_size | (simp [go_sem]; done)))).mono ?_); intro e w1 hr; obtain ⟨rfl, p, rfl⟩ := hr.out; clear hr) | ((with_reducible refine (U2.out _).mono ?_); intro e w1 hr; obtain ⟨rfl, p, rfl⟩ := hr.out; clear hr) | ((with_reducible refine (T3.out _).mono ?_); rintro e w1 ⟨rfl, rfl⟩) | ((with_reducible refine (U3.out _).mono ?_); intro e w1 hr; obtain ⟨rfl, p, rfl⟩ := hr.out; clear hr))
      go_returns
      exact ⟨rfl, by repeat' (first | (with_reducible exact Below.refl _ _) | (with_reducible assumption) | (with_reducible refine Below.alloc ?_ ?_ _) | (with_reducible refine Below.drew ?_) | (with_reducible refine belowN ?_ _) | (with_reducible refine Below.setCell ?_ ?_ _) | (with_reducible refine belowG ?_ ?_) | (with_reducible exact Nat.le_refl _) | (with_reducible refine le_sizeG ?_) | (with_reducible refine le_sizeA ?_) | (with_reducible refine le_sizeC ?_) | (with_reducible refine le_sizeD ?_) | (with_reducible refine le_sizeN ?_) | go_size | (simp [go_sem]; done))⟩
/-- The walk of TokNames: any text may be an event's name, or a name, or a word that means something, just if the document says so. -/
theorem names_walk (s : ByteArray) (z : s.size ≤ maxLen) (w : World) (hw : Lb w) : Calls Tryd.prog 11 #[.string s] w (Ret (.bool true) w) := by
  by_cases h : 1000 < s.size
  · exact names_long s z h w hw
  · exact names_short s (by omega) w hw
end Go.Proofs.YtidbmampjjgkpaaDoor
