/- Several texts of this proof, joined: H. -/
import Derived.Test.YtekfnnfphhoeoaaGreatDoorZ1
import Derived.WalkKit
import Derived.ProofKit
import Derived.OpenShut
import Derived.Handy
import Derived.BigQuiet
import Derived.Lib.Hide
import Derived.WalkLawsBesides
namespace Go.Proofs.YtekfnnfphhoeoaaGreatDoor
open Go.RowKit
/-- Is it a value? -/
def rightB (k n : Int) (s : ByteArray) : Bool := (k == 1 && s.toList.isEmpty) || (k == 2 && s.toList.isEmpty && (n == 0 || n == 1)) || (k == 3 && n == 0 && plainB s.data.toList)
theorem right_any (k n : Int) (s : ByteArray) (w : World) (hs : s.size ≤ maxLen) : Calls Tryz.prog 192 #[.agg #[.int .i64 k, .int .i64 n, .string s]] w (Ret (.bool (rightB k n s)) w) := by
  have hp := fun wx => Lib.hid (plain_any s wx hs)
  have hp := Lib.hid hp
  have hd : Hid (rightB k n s = ((k == 1 && s.toList.isEmpty) || (k == 2 && s.toList.isEmpty && (n == 0 || n == 1)) || (k == 3 && n == 0 && plainB s.data.toList))) := rfl
  by_cases h1 : k = 1
  · subst h1
    go_enter Tryz.func192, Tryz.ntmps192
    go_wp2_with ((with_reducible refine ((hp.out _).out).mono ?_); rintro e w1 ⟨rfl, rfl⟩)
    all_goals go_returns
    all_goals exact ⟨ret_bl (by rw [hd.out]; simp [*]), by repeat' (first | (with_reducible exact Below.refl _ _) | (with_reducible assumption) | (with_reducible refine Below.alloc ?_ ?_ _) | (with_reducible refine Below.drew ?_) | (with_reducible refine belowN ?_ _) | (with_reducible refine Below.setCell ?_ ?_ _) | (with_reducible refine belowG ?_ ?_) | (with_reducible refine le_sizeG ?_) | go_size | (simp [go_sem]; done))⟩
  · by_cases h2 : k = 2
    · subst h2
      rcases h3 : s.toList.isEmpty <;> by_cases h4 : n = 0 <;> by_cases h5 : n = 1
      all_goals try (exfalso; omega)
      all_goals try subst h4
      all_goals try subst h5
      all_goals
        try have h4' : (n == 0) = false := by simpa using h4
        try have h5' : (n == 1) = false := by simpa using h5
        have h3' := Lib.hid h3
        go_enter Tryz.func192, Tryz.ntmps192
        go_wp2_with ((with_reducible refine ((hp.out _).out).mono ?_); rintro e w1 ⟨rfl, rfl⟩)
        all_goals go_returns
        all_goals exact ⟨ret_bl (by rw [hd.out, h3'.out]; simp [*]), by repeat' (first | (with_reducible exact Below.refl _ _) | (with_reducible assumption) | (with_reducible refine Below.alloc ?_ ?_ _) | (with_reducible refine Below.drew ?_) | (with_reducible refine belowN ?_ _) | (with_reducible refine Below.setCell ?_ ?_ _) | (with_reducible refine belowG ?_ ?_) | (with_reducible refine le_sizeG ?_) | go_size | (simp [go_sem]; done))⟩
    · by_cases h6 : k = 3
      · subst h6
        by_cases h4 : n = 0
        · subst h4
          go_enter Tryz.func192, Tryz.ntmps192
          go_wp2_with ((with_reducible refine ((hp.out _).out).mono ?_); rintro e w1 ⟨rfl, rfl⟩)
          all_goals go_returns
          all_goals exact ⟨ret_bl (by rw [hd.out]; simp [*]), by repeat' (first | (with_reducible exact Below.refl _ _) | (with_reducible assumption) | (with_reducible refine Below.alloc ?_ ?_ _) | (with_reducible refine Below.drew ?_) | (with_reducible refine belowN ?_ _) | (with_reducible refine Below.setCell ?_ ?_ _) | (with_reducible refine belowG ?_ ?_) | (with_reducible refine le_sizeG ?_) | go_size | (simp [go_sem]; done))⟩
        · have h4' : (n == 0) = false := by simpa using h4
          go_enter Tryz.func192, Tryz.ntmps192
          go_wp2_with ((with_reducible refine ((hp.out _).out).mono ?_); rintro e w1 ⟨rfl, rfl⟩)
          all_goals go_returns
          all_goals exact ⟨ret_bl (by rw [hd.out]; simp [*]), by repeat' (first | (with_reducible exact Below.refl _ _) | (with_reducible assumption) | (with_reducible refine Below.alloc ?_ ?_ _) | (with_reducible refine Below.drew ?_) | (with_reducible refine belowN ?_ _) | (with_reducible refine Below.setCell ?_ ?_ _) | (with_reducible refine belowG ?_ ?_) | (with_reducible refine le_sizeG ?_) | go_size | (simp [go_sem]; done))⟩
      · have h1' : (k == 1) = false := by simpa using h1
        have h2' : (k == 2) = false := by simpa using h2
        have h6' : (k == 3) = false := by simpa using h6
        go_enter Tryz.func192, Tryz.ntmps192
        go_wp2_with ((with_reducible refine ((hp.out _).out).mono ?_); rintro e w1 ⟨rfl, rfl⟩)
        all_goals go_returns
        all_goals exact ⟨ret_bl (by rw [hd.out]; simp [*]), by repeat' (first | (with_reducible exact Below.refl _ _) | (with_reducible assumption) | (with_reducible refine Below.alloc ?_ ?_ _) | (with_reducible refine Below.drew ?_) | (with_reducible refine belowN ?_ _) | (with_reducible refine Below.setCell ?_ ?_ _) | (with_reducible refine belowG ?_ ?_) | (with_reducible refine le_sizeG ?_) | go_size | (simp [go_sem]; done))⟩
end Go.Proofs.YtekfnnfphhoeoaaGreatDoor
