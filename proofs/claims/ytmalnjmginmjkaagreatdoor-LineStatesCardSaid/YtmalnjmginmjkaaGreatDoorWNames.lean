import Derived.Test.YtmalnjmginmjkaaGreatDoorTN
import Derived.Test.YtmalnjmginmjkaaGreatDoorN1
import Derived.Test.YtmalnjmginmjkaaGreatDoorN3
import Derived.WalkKit
import Derived.ProofKit
import Derived.OpenShut
import Derived.Handy
import Derived.BigQuiet
import Derived.OwnWalk
import Derived.Lib.Hide
import Derived.WalkSmall
import Derived.WalkLawsBesides
namespace Go.Proofs.YtmalnjmginmjkaaGreatDoor
open Go.RowKit
set_option maxRecDepth 100000 in
theorem uname_no (s : ByteArray) (w : World) (T : ∀ wx, Calls Tryz.prog 9 #[.string s] wx (NotOneIs wx)) : Calls Tryz.prog 5 #[.string s] w (Ret (.bool false) w) := by
  replace T := Lib.hid T
  go_enter Tryz.func5, Tryz.ntmps5
  go_wp2_with fail
  refine (T.out _).mono ?_
  intro e w1 hr
  obtain ⟨x, j, ao, n, cap, rfl, hx, hb⟩ := hr
  clear T
  rcases hx with hx | ⟨rfl, hn⟩
  · have hx' : ¬ x = 0 := by simpa using hx
    go_wp2
    go_returns
    exact ⟨rfl, by repeat' (first | (with_reducible exact Below.refl _ _) | (with_reducible assumption) | (with_reducible refine Below.alloc ?_ ?_ _) | (with_reducible refine Below.drew ?_) | (with_reducible refine belowN ?_ _) | (with_reducible refine Below.setCell ?_ ?_ _) | (with_reducible refine belowG ?_ ?_) | (with_reducible exact Nat.le_refl _) | (with_reducible refine le_sizeG ?_) | (with_reducible refine le_sizeA ?_) | (with_reducible refine le_sizeC ?_) | (with_reducible refine le_sizeD ?_) | (with_reducible refine le_sizeN ?_) | go_size | (simp [go_sem]; done))⟩
  · have hn' : ¬ (n : Int) = 1 := by simpa using hn
    go_wp2
    go_returns
    exact ⟨rfl, by repeat' (first | (with_reducible exact Below.refl _ _) | (with_reducible assumption) | (with_reducible refine Below.alloc ?_ ?_ _) | (with_reducible refine Below.drew ?_) | (with_reducible refine belowN ?_ _) | (with_reducible refine Below.setCell ?_ ?_ _) | (with_reducible refine belowG ?_ ?_) | (with_reducible exact Nat.le_refl _) | (with_reducible refine le_sizeG ?_) | (with_reducible refine le_sizeA ?_) | (with_reducible refine le_sizeC ?_) | (with_reducible refine le_sizeD ?_) | (with_reducible refine le_sizeN ?_) | go_size | (simp [go_sem]; done))⟩
set_option maxRecDepth 100000 in
set_option maxHeartbeats 1000000 in
theorem uname_yes (s : ByteArray) (hs : s.size ≤ 140737488351232) (t : Tk) (w : World) (T : ∀ wx, Calls Tryz.prog 9 #[.string s] wx (OneIs t wx)) : Calls Tryz.prog 5 #[.string s] w (Ret (.bool ((t.k == 1) && decide (t.s = s.data.toList) && !meansB s.data.toList)) w) := by
  have he := txt_eq t s
  have M := Lib.hid (fun wx => umeans_any s hs wx)
  generalize meansB s.data.toList = m at *
  obtain ⟨d, hd⟩ : ∃ d, decide (t.s = s.data.toList) = d := ⟨_, rfl⟩
  rw [hd] at he ⊢
  clear hd
  unfold OneIs at T
  generalize t.k = k at *
  generalize (⟨t.s.toArray⟩ : ByteArray) = q at *
  replace T := Lib.hid T
  rcases hk : (k == 1) <;> cases d <;> cases m
  all_goals
    go_enter Tryz.func5, Tryz.ntmps5
    go_wp2_with fail
    refine (T.out _).mono ?_
    intro e w1 hr
    obtain ⟨g, cap, rfl, hg, a0, a1, hb⟩ := hr
    have hz := hb.size
    go_wp2_with ((with_reducible refine (M.out _).mono ?_); intro e w1 hr; obtain ⟨rfl, p, rfl⟩ := hr.out; clear hr)
    go_returns
    exact ⟨rfl, by repeat' (first | (with_reducible exact Below.refl _ _) | (with_reducible assumption) | (with_reducible refine Below.alloc ?_ ?_ _) | (with_reducible refine Below.drew ?_) | (with_reducible refine belowN ?_ _) | (with_reducible refine Below.setCell ?_ ?_ _) | (with_reducible refine belowG ?_ ?_) | (with_reducible exact Nat.le_refl _) | (with_reducible refine le_sizeG ?_) | (with_reducible refine le_sizeA ?_) | (with_reducible refine le_sizeC ?_) | (with_reducible refine le_sizeD ?_) | (with_reducible refine le_sizeN ?_) | go_size | (simp [go_sem]; done))⟩
theorem uname_any (s : ByteArray) (hs : s.size ≤ 140737488351232) (w : World) : Calls Tryz.prog 5 #[.string s] w (Ret (.bool (nmB s.data.toList)) w) := by
  unfold nmB
  rcases hl : lexT 120 0 s.data.toList with ⟨x, j⟩ | ts
  · rw [aloneK_err hl]
    exact uname_no s w fun wx => (ulex_any s hs wx).mono fun e w' hr => notOne_err hl hr
  · by_cases hn : ts.length = 1
    · obtain ⟨t, rfl⟩ := List.length_eq_one_iff.1 hn
      have e : (aloneK s.data.toList == 1) = ((t.k == 1) && decide (t.s = s.data.toList)) := by
        rw [aloneK_one hl, Bool.eq_iff_iff]
        simp only [Bool.and_eq_true, beq_iff_eq, decide_eq_true_eq]
        split
        · constructor
          · intro h; exact ⟨h, ‹_›⟩
          · intro h; exact h.1
        · constructor
          · intro h; omega
          · intro h; exact absurd h.2 ‹_›
      rw [e]
      exact uname_yes s hs t w fun wx => (ulex_any s hs wx).mono fun e w' hr => one_of (lex_sl hl hr)
    · rw [aloneK_more hl hn]
      exact uname_no s w fun wx => (ulex_any s hs wx).mono fun e w' hr => notOne_ok hl hn hr
end Go.Proofs.YtmalnjmginmjkaaGreatDoor

