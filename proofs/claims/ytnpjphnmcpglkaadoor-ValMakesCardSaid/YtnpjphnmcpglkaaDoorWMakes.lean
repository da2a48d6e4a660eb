import Derived.Test.YtnpjphnmcpglkaaDoorAN
import Derived.Test.YtnpjphnmcpglkaaDoorR0
import Derived.WalkKit
import Derived.ProofKit
import Derived.OpenShut
import Derived.Handy
import Derived.BigQuiet
import Derived.Lib.Hide
import Derived.Lib.Strings
import Derived.WalkLawsBesides
namespace Go.Proofs.YtnpjphnmcpglkaaDoor
open Go.RowKit
theorem right_bool (b : Bool) : rightB 2 (bI b) ⟨#[]⟩ = true := by cases b <;> decide +kernel
theorem yes_bool (b : Bool) : yesB 2 (bI b) = b := by cases b <;> decide
/-- The walk of ValMakes: any number, truth and text is the value that it makes. -/
theorem makes_walk (n : Int) (b : Bool) (s : ByteArray) (w : World) : Calls Tryd.prog 6 #[.int .i64 n, .bool b, .string s] w (Ret (.bool true) w) := by
  have hr := Lib.hid (right_bool b)
  have hy := Lib.hid (yes_bool b)
  go_enter Tryd.func6, Tryd.ntmps6
  go_wp2_with (first | ((with_reducible refine (anchor_any _).mono ?_); intro e w1 hr; obtain ⟨rfl, p, rfl⟩ := hr.out; clear hr) | ((with_reducible refine (truth_any _ _).mono ?_); intro e w1 hr; obtain ⟨rfl, p, rfl⟩ := hr.out; clear hr) | ((with_reducible refine (of_any _ _).mono ?_); intro e w1 hr; obtain ⟨rfl, p, rfl⟩ := hr.out; clear hr) | ((with_reducible refine (yes_any 2 (bI b) _ _).mono ?_); intro e w1 hr; obtain ⟨rfl, p, rfl⟩ := hr.out; clear hr; rw [hy.out]) | ((with_reducible refine (right_any 2 (bI b) ⟨#[]⟩ _ (by decide)).mono ?_); intro e w1 hq; obtain ⟨rfl, p, rfl⟩ := hq.out; clear hq; rw [hr.out]) | ((with_reducible refine (word_any _ _).mono ?_); intro e w1 hr; obtain ⟨rfl, p, rfl⟩ := hr.out; clear hr))
  go_returns
  exact ⟨rfl, by repeat' (first | (with_reducible exact Below.refl _ _) | (with_reducible assumption) | (with_reducible refine Below.alloc ?_ ?_ _) | (with_reducible refine Below.drew ?_) | (with_reducible refine belowN ?_ _) | (with_reducible refine Below.setCell ?_ ?_ _) | (with_reducible refine belowG ?_ ?_) | (with_reducible exact Nat.le_refl _) | (with_reducible refine le_sizeG ?_) | (with_reducible refine le_sizeA ?_) | (with_reducible refine le_sizeC ?_) | (with_reducible refine le_sizeD ?_) | (with_reducible refine le_sizeN ?_) | go_size | (simp [go_sem]; done))⟩
end Go.Proofs.YtnpjphnmcpglkaaDoor
