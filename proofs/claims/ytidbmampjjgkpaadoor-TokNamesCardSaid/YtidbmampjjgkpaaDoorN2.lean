import Derived.Test.YtidbmampjjgkpaaDoorNM
import Derived.Test.YtidbmampjjgkpaaDoorU1
import Derived.WalkKit
import Derived.ProofKit
import Derived.OpenShut
import Derived.Handy
import Derived.BigQuiet
import Derived.Lib.Hide
import Derived.WalkSmall
import Derived.WalkLawsBesides
namespace Go.Proofs.YtidbmampjjgkpaaDoor
open Go.RowKit
set_option maxHeartbeats 2000000 in
set_option maxRecDepth 100000 in
theorem tmeans_no (s : ByteArray) (h : meansB s.data.toList = false) (w : World) : Calls Tryd.prog 41 #[.string s] w (RetW (.bool false) w) := by
  have f : ∀ l, l ∈ words → (s.toList == l) = false := fun l hl => by
    rw [beq_eq_false_iff_ne, Lib.toList_data]
    intro he
    unfold meansB at h
    rw [he, ← Bool.not_eq_true, List.contains_iff_mem] at h
    exact h hl
  have h0 : (s.toList == [99, 104, 97, 114, 116]) = false := f [99, 104, 97, 114, 116] (by decide)
  have h1 : (s.toList == [118, 97, 114]) = false := f [118, 97, 114] (by decide)
  have h2 : (s.toList == [115, 116, 97, 116, 101]) = false := f [115, 116, 97, 116, 101] (by decide)
  have h3 : (s.toList == [112, 97, 114, 97, 108, 108, 101, 108]) = false := f [112, 97, 114, 97, 108, 108, 101, 108] (by decide)
  have h4 : (s.toList == [102, 105, 110, 97, 108]) = false := f [102, 105, 110, 97, 108] (by decide)
  have h5 : (s.toList == [100, 101, 101, 112]) = false := f [100, 101, 101, 112] (by decide)
  have h6 : (s.toList == [115, 104, 97, 108, 108, 111, 119]) = false := f [115, 104, 97, 108, 108, 111, 119] (by decide)
  have h7 : (s.toList == [101, 110, 116, 101, 114]) = false := f [101, 110, 116, 101, 114] (by decide)
  have h8 : (s.toList == [101, 120, 105, 116]) = false := f [101, 120, 105, 116] (by decide)
  have h9 : (s.toList == [111, 110]) = false := f [111, 110] (by decide)
  have h10 : (s.toList == [97, 117, 116, 111]) = false := f [97, 117, 116, 111] (by decide)
  have h11 : (s.toList == [101, 110, 100]) = false := f [101, 110, 100] (by decide)
  have h12 : (s.toList == [105, 102]) = false := f [105, 102] (by decide)
  have h13 : (s.toList == [103, 111]) = false := f [103, 111] (by decide)
  have h14 : (s.toList == [105, 110, 110, 101, 114]) = false := f [105, 110, 110, 101, 114] (by decide)
  have h15 : (s.toList == [100, 111]) = false := f [100, 111] (by decide)
  have h16 : (s.toList == [115, 101, 116]) = false := f [115, 101, 116] (by decide)
  have h17 : (s.toList == [114, 97, 105, 115, 101]) = false := f [114, 97, 105, 115, 101] (by decide)
  have h18 : (s.toList == [115, 101, 110, 100]) = false := f [115, 101, 110, 100] (by decide)
  have h19 : (s.toList == [99, 97, 110, 99, 101, 108]) = false := f [99, 97, 110, 99, 101, 108] (by decide)
  have h20 : (s.toList == [108, 111, 103]) = false := f [108, 111, 103] (by decide)
  have h21 : (s.toList == [116, 114, 117, 101]) = false := f [116, 114, 117, 101] (by decide)
  have h22 : (s.toList == [102, 97, 108, 115, 101]) = false := f [102, 97, 108, 115, 101] (by decide)
  have h23 : (s.toList == [110, 111, 116]) = false := f [110, 111, 116] (by decide)
  have h24 : (s.toList == [97, 110, 100]) = false := f [97, 110, 100] (by decide)
  have h25 : (s.toList == [111, 114]) = false := f [111, 114] (by decide)
  have h26 : (s.toList == [105, 110]) = false := f [105, 110] (by decide)
  clear f h
  go_enter Tryd.func41, Tryd.ntmps41
  go_wp2
  go_returns
  exact ⟨rfl, rfl⟩
set_option maxHeartbeats 4000000 in
set_option maxRecDepth 100000 in
theorem tmeans_yes (s : ByteArray) (h : meansB s.data.toList = true) (w : World) : Calls Tryd.prog 41 #[.string s] w (RetW (.bool true) w) := by
  have hs : ∃ l, l ∈ words ∧ s = ⟨l.toArray⟩ := ⟨s.data.toList, by unfold meansB at h; rwa [List.contains_iff_mem] at h, rfl⟩
  obtain ⟨l, hl, rfl⟩ := hs
  clear h
  simp only [words, List.mem_cons, List.not_mem_nil, or_false] at hl
  rcases hl with rfl | rfl | rfl | rfl | rfl | rfl | rfl | rfl | rfl | rfl | rfl | rfl | rfl | rfl | rfl | rfl | rfl | rfl | rfl | rfl | rfl | rfl | rfl | rfl | rfl | rfl | rfl
  all_goals
    go_enter Tryd.func41, Tryd.ntmps41
    go_wp2
    go_returns
    exact ⟨rfl, rfl⟩
theorem tmeans_any (s : ByteArray) (w : World) : Calls Tryd.prog 41 #[.string s] w (RetW (.bool (meansB s.data.toList)) w) := by
  rcases h : meansB s.data.toList
  · exact tmeans_no s h w
  · exact tmeans_yes s h w
end Go.Proofs.YtidbmampjjgkpaaDoor
