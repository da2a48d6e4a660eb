import Derived.Test.YtidbmampjjgkpaaDoorNM
import Derived.Test.YtidbmampjjgkpaaDoorU5
import Derived.WalkKit
import Derived.ProofKit
import Derived.OpenShut
import Derived.Handy
import Derived.BigQuiet
import Derived.OwnWalk
import Derived.Lib.Hide
import Derived.WalkSmall
import Derived.WalkLawsBesides
namespace Go.Proofs.YtidbmampjjgkpaaDoor
open Go.RowKit
/-- Lex's answer at a line of one token. -/
def OneIs (t : Tk) (w : World) (e : Ending) (w' : World) : Prop := ∃ g cap, e = .returned (.tuple #[.slice (some ⟨g, 0, none⟩) 1 cap, .int .i64 0, .int .i64 0]) ∧ g < w'.heap.size ∧ w'.cell? ⟨g, 0, none⟩ = some (.int .i64 t.k) ∧ w'.cell? ⟨g, 1, none⟩ = some (.string ⟨t.s.toArray⟩) ∧ Below w.heap.size w w'
theorem one_of {t : Tk} {w : World} {e : Ending} {w' : World} (h : SlIs [t] w e w') : OneIs t w e w' := by
  obtain ⟨ao, cap, he, h1, hb⟩ := h
  obtain ⟨g, rfl, hg, ht⟩ := h1 Nat.one_pos
  obtain ⟨a0, a1, _, _⟩ := ht 0 Nat.one_pos
  exact ⟨g, cap, he, hg, a0, a1, hb⟩
/-- .. and at one of none, or more than one. -/
def NotOneIs (w : World) (e : Ending) (w' : World) : Prop := ∃ (x : Int) (j : Int) (ao : Option Addr) (n cap : Nat), e = .returned (.tuple #[.slice ao n cap, .int .i64 x, .int .i64 j]) ∧ ((x == 0) = false ∨ x = 0 ∧ ((n : Int) == 1) = false) ∧ Below w.heap.size w w'
theorem notOne_err {ty : TypeId} {l : List UInt8} {w : World} {e : Ending} {w' : World} {x : Int} {j : Nat} (h : lexT 120 0 l = .error (x, j)) (hr : LexIs ty l w e w') : NotOneIs w e w' := by
  obtain ⟨he, hb⟩ := (lexIs_err h).mp hr
  exact ⟨x, _, none, 0, 0, he, .inl (lexT_err h), hb⟩
theorem notOne_ok {ty : TypeId} {l : List UInt8} {w : World} {e : Ending} {w' : World} {ts : List Tk} (h : lexT 120 0 l = .ok ts) (hn : ts.length ≠ 1) (hr : LexIs ty l w e w') : NotOneIs w e w' := by
  obtain ⟨ao, cap, he, _, hb⟩ := lex_sl h hr
  exact ⟨0, 0, ao, ts.length, cap, he, .inr ⟨rfl, by rw [beq_eq_false_iff_ne]; omega⟩, hb⟩
theorem txt_eq (t : Tk) (s : ByteArray) : ((⟨t.s.toArray⟩ : ByteArray).toList == s.toList) = decide (t.s = s.data.toList) := by
  rw [Lib.toList_data, Lib.toList_data, Bool.eq_iff_iff, beq_iff_eq, decide_eq_true_eq]
set_option maxRecDepth 100000 in
theorem talone_no (s : ByteArray) (w : World) (T : ∀ wx, Below w.heap.size w wx → Calls Tryd.prog 33 #[.string s] wx (NotOneIs wx)) : Calls Tryd.prog 69 #[.string s] w (Ret (.int .i64 0) w) := by
  replace T := Lib.hid T
  go_enter Tryd.func69, Tryd.ntmps69
  go_wp2_with fail
  refine (T.out _ (by repeat' (first | (with_reducible exact Below.refl _ _) | (with_reducible assumption) | (with_reducible refine Below.alloc ?_ ?_ _) | (with_reducible refine Below.drew ?_) | (with_reducible refine belowN ?_ _) | (with_reducible refine Below.setCell ?_ ?_ _) | (with_reducible refine belowG ?_ ?_) | (with_reducible exact Nat.le_refl _) | (with_reducible refine le_sizeG ?_) | (with_reducible refine le_sizeA ?_) | (with_reducible refine le_sizeC ?_) | (with_reducible refine le_sizeD ?_) | (with_reducible refine le_sizeN ?_) | go_size | (simp [go_sem]; done)))).mono ?_
  intro e w1 hr
  obtain ⟨x, j, ao, n, cap, rfl, hx, hb⟩ := hr
  clear T
  rcases hx with hx | ⟨rfl, hn⟩
  · have hx' : ¬ x = 0 := by simpa using hx
    go_wp2
    go_returns
    exact ⟨rfl, by repeat' (first | (with_reducible exact Below.refl _ _) | (with_reducible assumption) | (with_reducible refine Below.alloc ?_ ?_ _) | (with_reducible refine Below.drew ?_) | (with_reducible refine belowN ?_ _) | (with_reducible refine Below.setCell ?_ ?_ _) | (with_reducible refine belowG ?_ ?_) | (with_reducible exact Nat.le_refl _) | (with_reducible refine le_sizeG ?_) | (with_reducible refine le_sizeA ?_) | (with_reducible refine le_sizeC ?_) | (with_reducible refine le_sizeD ?_) | (with_reducible refine le_sizeN ?_) | go_size | (simp [go_sem]; done))⟩
  · have hn' : ¬ (n : Int) = 1 := by simpa using hn
    go_wp2
    go_returns
    exact ⟨rfl, by repeat' (first | (with_reducible exact Below.refl _ _) | (with_reducible assumption) | (with_reducible refine Below.alloc ?_ ?_ _) | (with_reducible refine Below.drew ?_) | (with_reducible refine belowN ?_ _) | (with_reducible refine Below.setCell ?_ ?_ _) | (with_reducible refine belowG ?_ ?_) | (with_reducible exact Nat.le_refl _) | (with_reducible refine le_sizeG ?_) | (with_reducible refine le_sizeA ?_) | (with_reducible refine le_sizeC ?_) | (with_reducible refine le_sizeD ?_) | (with_reducible refine le_sizeN ?_) | go_size | (simp [go_sem]; done))⟩
set_option maxRecDepth 100000 in
theorem talone_yes (s : ByteArray) (t : Tk) (w : World) (T : ∀ wx, Below w.heap.size w wx → Calls Tryd.prog 33 #[.string s] wx (OneIs t wx)) : Calls Tryd.prog 69 #[.string s] w (Ret (.int .i64 (if t.s = s.data.toList then t.k else 0)) w) := by
  have he := txt_eq t s
  obtain ⟨d, hd⟩ : ∃ d, decide (t.s = s.data.toList) = d := ⟨_, rfl⟩
  have hr : (if t.s = s.data.toList then t.k else 0) = if d then t.k else 0 := by rw [← hd]; simp
  rw [hr]
  rw [hd] at he
  clear hr hd
  unfold OneIs at T
  generalize t.k = k at *
  generalize (⟨t.s.toArray⟩ : ByteArray) = q at *
  replace T := Lib.hid T
  cases d
  all_goals
    go_enter Tryd.func69, Tryd.ntmps69
    go_wp2_with fail
    refine (T.out _ (by repeat' (first | (with_reducible exact Below.refl _ _) | (with_reducible assumption) | (with_reducible refine Below.alloc ?_ ?_ _) | (with_reducible refine Below.drew ?_) | (with_reducible refine belowN ?_ _) | (with_reducible refine Below.setCell ?_ ?_ _) | (with_reducible refine belowG ?_ ?_) | (with_reducible exact Nat.le_refl _) | (with_reducible refine le_sizeG ?_) | (with_reducible refine le_sizeA ?_) | (with_reducible refine le_sizeC ?_) | (with_reducible refine le_sizeD ?_) | (with_reducible refine le_sizeN ?_) | go_size | (simp [go_sem]; done)))).mono ?_
    intro e w1 hr
    obtain ⟨g, cap, rfl, hg, a0, a1, hb⟩ := hr
    clear T
    go_wp2
    go_returns
    exact ⟨rfl, by repeat' (first | (with_reducible exact Below.refl _ _) | (with_reducible assumption) | (with_reducible refine Below.alloc ?_ ?_ _) | (with_reducible refine Below.drew ?_) | (with_reducible refine belowN ?_ _) | (with_reducible refine Below.setCell ?_ ?_ _) | (with_reducible refine belowG ?_ ?_) | (with_reducible exact Nat.le_refl _) | (with_reducible refine le_sizeG ?_) | (with_reducible refine le_sizeA ?_) | (with_reducible refine le_sizeC ?_) | (with_reducible refine le_sizeD ?_) | (with_reducible refine le_sizeN ?_) | go_size | (simp [go_sem]; done))⟩
theorem talone_any (s : ByteArray) (hs : s.size ≤ 100000) (w : World) (hw : Lb w) : Calls Tryd.prog 69 #[.string s] w (Ret (.int .i64 (aloneK s.data.toList)) w) := by
  rcases hl : lexT 120 0 s.data.toList with ⟨x, j⟩ | ts
  · rw [aloneK_err hl]
    exact talone_no s w fun wx h => (tlex_any s hs wx (lb_below hw h)).mono fun e w' hr => notOne_err hl hr
  · by_cases hn : ts.length = 1
    · obtain ⟨t, rfl⟩ := List.length_eq_one_iff.1 hn
      rw [aloneK_one hl]
      exact talone_yes s t w fun wx h => (tlex_any s hs wx (lb_below hw h)).mono fun e w' hr => one_of (lex_sl hl hr)
    · rw [aloneK_more hl hn]
      exact talone_no s w fun wx h => (tlex_any s hs wx (lb_below hw h)).mono fun e w' hr => notOne_ok hl hn hr
def evB (l : List UInt8) : Bool := aloneK l == 1 || aloneK l == 2
theorem tevent_any (s : ByteArray) (hs : s.size ≤ 100000) (w : World) (hw : Lb w) : Calls Tryd.prog 37 #[.string s] w (Ret (.bool (evB s.data.toList)) w) := by
  have T := Lib.hid (fun wx h => talone_any s hs wx (lb_below hw h))
  unfold evB
  generalize aloneK s.data.toList = k at *
  clear hw
  rcases h1 : (k == 1) <;> rcases h2 : (k == 2)
  all_goals
    go_enter Tryd.func37, Tryd.ntmps37
    go_wp2_with ((with_reducible refine (T.out _ (by repeat' (first | (with_reducible exact Below.refl _ _) | (with_reducible assumption) | (with_reducible refine Below.alloc ?_ ?_ _) | (with_reducible refine Below.drew ?_) | (with_reducible refine belowN ?_ _) | (with_reducible refine Below.setCell ?_ ?_ _) | (with_reducible refine belowG ?_ ?_) | (with_reducible exact Nat.le_refl _) | (with_reducible refine le_sizeG ?_) | (with_reducible refine le_sizeA ?_) | (with_reducible refine le_sizeC ?_) | (with_reducible refine le_sizeD ?_) | (with_reducible refine le_sizeN ?_) | go_size | (simp [go_sem]; done)))).mono ?_); intro e w1 hr; obtain ⟨rfl, p, rfl⟩ := hr.out; clear hr)
    all_goals
      go_returns
      exact ⟨rfl, by repeat' (first | (with_reducible exact Below.refl _ _) | (with_reducible assumption) | (with_reducible refine Below.alloc ?_ ?_ _) | (with_reducible refine Below.drew ?_) | (with_reducible refine belowN ?_ _) | (with_reducible refine Below.setCell ?_ ?_ _) | (with_reducible refine belowG ?_ ?_) | (with_reducible exact Nat.le_refl _) | (with_reducible refine le_sizeG ?_) | (with_reducible refine le_sizeA ?_) | (with_reducible refine le_sizeC ?_) | (with_reducible refine le_sizeD ?_) | (with_reducible refine le_sizeN ?_) | go_size | (simp [go_sem]; done))⟩
set_option maxRecDepth 100000 in
theorem uevent_no (s : ByteArray) (w : World) (T : ∀ wx, Calls Tryd.prog 34 #[.string s] wx (NotOneIs wx)) : Calls Tryd.prog 38 #[.string s] w (Ret (.bool false) w) := by
  replace T := Lib.hid T
  go_enter Tryd.func38, Tryd.ntmps38
  go_wp2_with fail
  refine (T.out _).mono ?_
  intro e w1 hr
  obtain ⟨x, j, ao, n, cap, rfl, hx, hb⟩ := hr
  clear T
  rcases hx with hx | ⟨rfl, hn⟩
  · have hx' : ¬ x = 0 := by simpa using hx
    go_wp2
    go_returns
    exact ⟨rfl, by repeat' (first | (with_reducible exact Below.refl _ _) | (with_reducible assumption) | (with_reducible refine Below.alloc ?_ ?_ _) | (with_reducible refine Below.drew ?_) | (with_reducible refine belowN ?_ _) | (with_reducible refine Below.setCell ?_ ?_ _) | (with_reducible refine belowG ?_ ?_) | (with_reducible exact Nat.le_refl _) | (with_reducible refine le_sizeG ?_) | (with_reducible refine le_sizeA ?_) | (with_reducible refine le_sizeC ?_) | (with_reducible refine le_sizeD ?_) | (with_reducible refine le_sizeN ?_) | go_size | (simp [go_sem]; done))⟩
  · have hn' : ¬ (n : Int) = 1 := by simpa using hn
    go_wp2
    go_returns
    exact ⟨rfl, by repeat' (first | (with_reducible exact Below.refl _ _) | (with_reducible assumption) | (with_reducible refine Below.alloc ?_ ?_ _) | (with_reducible refine Below.drew ?_) | (with_reducible refine belowN ?_ _) | (with_reducible refine Below.setCell ?_ ?_ _) | (with_reducible refine belowG ?_ ?_) | (with_reducible exact Nat.le_refl _) | (with_reducible refine le_sizeG ?_) | (with_reducible refine le_sizeA ?_) | (with_reducible refine le_sizeC ?_) | (with_reducible refine le_sizeD ?_) | (with_reducible refine le_sizeN ?_) | go_size | (simp [go_sem]; done))⟩
set_option maxRecDepth 100000 in
theorem uevent_yes (s : ByteArray) (t : Tk) (w : World) (T : ∀ wx, Calls Tryd.prog 34 #[.string s] wx (OneIs t wx)) : Calls Tryd.prog 38 #[.string s] w (Ret (.bool (decide (t.k < 3) && decide (t.s = s.data.toList))) w) := by
  have he := txt_eq t s
  obtain ⟨d, hd⟩ : ∃ d, decide (t.s = s.data.toList) = d := ⟨_, rfl⟩
  rw [hd] at he ⊢
  clear hd
  unfold OneIs at T
  generalize t.k = k at *
  generalize (⟨t.s.toArray⟩ : ByteArray) = q at *
  replace T := Lib.hid T
  by_cases hk : k < 3
  all_goals
    obtain ⟨b, hb'⟩ : ∃ b, decide (k < 3) = b := ⟨_, rfl⟩
    rw [hb']
    simp only [hk, decide_true, decide_false] at hb'
    subst hb'
    cases d
    all_goals
      go_enter Tryd.func38, Tryd.ntmps38
      go_wp2_with fail
      refine (T.out _).mono ?_
      intro e w1 hr
      obtain ⟨g, cap, rfl, hg, a0, a1, hb⟩ := hr
      go_wp2
      go_returns
      exact ⟨rfl, by repeat' (first | (with_reducible exact Below.refl _ _) | (with_reducible assumption) | (with_reducible refine Below.alloc ?_ ?_ _) | (with_reducible refine Below.drew ?_) | (with_reducible refine belowN ?_ _) | (with_reducible refine Below.setCell ?_ ?_ _) | (with_reducible refine belowG ?_ ?_) | (with_reducible exact Nat.le_refl _) | (with_reducible refine le_sizeG ?_) | (with_reducible refine le_sizeA ?_) | (with_reducible refine le_sizeC ?_) | (with_reducible refine le_sizeD ?_) | (with_reducible refine le_sizeN ?_) | go_size | (simp [go_sem]; done))⟩
theorem uevent_any (s : ByteArray) (hs : s.size ≤ 100000) (w : World) : Calls Tryd.prog 38 #[.string s] w (Ret (.bool (evB s.data.toList)) w) := by
  unfold evB
  rcases hl : lexT 120 0 s.data.toList with ⟨x, j⟩ | ts
  · rw [aloneK_err hl]
    exact uevent_no s w fun wx => (ulex_any s hs wx).mono fun e w' hr => notOne_err hl hr
  · by_cases hn : ts.length = 1
    · obtain ⟨t, rfl⟩ := List.length_eq_one_iff.1 hn
      have hk := lexT_kind hl t (by simp)
      have e : (aloneK s.data.toList == 1 || aloneK s.data.toList == 2) = (decide (t.k < 3) && decide (t.s = s.data.toList)) := by
        rw [aloneK_one hl, Bool.eq_iff_iff]
        simp only [Bool.or_eq_true, Bool.and_eq_true, beq_iff_eq, decide_eq_true_eq]
        split
        · constructor
          · intro h; exact ⟨by omega, ‹_›⟩
          · intro h; omega
        · constructor
          · intro h; omega
          · intro h; exact absurd h.2 ‹_›
      rw [e]
      exact uevent_yes s t w fun wx => (ulex_any s hs wx).mono fun e w' hr => one_of (lex_sl hl hr)
    · rw [aloneK_more hl hn]
      exact uevent_no s w fun wx => (ulex_any s hs wx).mono fun e w' hr => notOne_ok hl hn hr
end Go.Proofs.YtidbmampjjgkpaaDoor
