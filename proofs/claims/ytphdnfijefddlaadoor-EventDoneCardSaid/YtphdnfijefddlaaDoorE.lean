import Derived.Test.YtphdnfijefddlaaDoorChecked
import Derived.Test.YtphdnfijefddlaaDoorG0
import Derived.Test.YtphdnfijefddlaaDoorNum
import Derived.WalkKit
import Derived.ProofKit
import Derived.OpenShut
import Derived.Handy
import Derived.BigQuiet
import Derived.Lib.Hide
import Derived.WalkLawsBesides
namespace Go.Proofs.YtphdnfijefddlaaDoor
open Go.RowKit
/-- A byte that a text may have. -/
def okc (c : UInt8) : Bool := !(decide ((c.toNat : Int) < 32) || decide (126 < (c.toNat : Int)) || ((c.toNat : Int) == 39))
def plainB (l : List UInt8) : Bool := decide (l.length ≤ 48) && l.all okc
theorem okc_lt {c : UInt8} (h : (c.toNat : Int) < 32) : okc c = false := by simp [okc, h]
theorem okc_gt {c : UInt8} (h : 126 < (c.toNat : Int)) : okc c = false := by simp [okc, h]
theorem okc_q {c : UInt8} (h : ((c.toNat : Int) == 39) = true) : okc c = false := by simp only [okc, h, Bool.or_true, Bool.not_true]
theorem okc_ok {c : UInt8} (h1 : 32 ≤ (c.toNat : Int)) (h2 : (c.toNat : Int) ≤ 126) (h3 : ((c.toNat : Int) == 39) = false) : okc c = true := by
  simp only [okc, h3, Bool.or_false, decide_eq_false (Int.not_lt.2 h1), decide_eq_false (Int.not_lt.2 h2), Bool.not_false]
theorem all_take_succ (s : ByteArray) (k : Nat) (h : k < s.size) : (s.data.toList.take (k + 1)).all okc = ((s.data.toList.take k).all okc && okc s[k]) := by
  have : s.data.toList.take (k + 1) = s.data.toList.take k ++ [s[k]] := by
    rw [List.take_succ_eq_append_getElem (by simpa using h)]; rfl
  rw [this, List.all_append]; simp
theorem all_not (s : ByteArray) (k : Nat) (h : k < s.size) (hc : okc s[k] = false) : s.data.toList.all okc = false := by
  rw [← Bool.not_eq_true, List.all_eq_true]
  intro ha
  have := ha s[k] (by show s[k] ∈ s.data.toList; rw [Array.mem_toList_iff]; exact Array.getElem_mem _)
  rw [hc] at this; cases this
def AllTo (s : ByteArray) (k : Nat) : Prop := (s.data.toList.take k).all okc = true
theorem plain_long (s : ByteArray) (h : 48 < s.size) : plainB s.data.toList = false := by
  have : s.data.toList.length = s.size := by simp
  simp [plainB]; intro h1; omega
theorem plain_bad (s : ByteArray) (k : Nat) (h : k < s.size) (hc : okc s[k] = false) : plainB s.data.toList = false := by simp [plainB, all_not s k h hc]
theorem plain_all (s : ByteArray) (h : s.size ≤ 48) (ha : AllTo s s.size) : plainB s.data.toList = true := by
  unfold AllTo at ha
  have : s.data.toList.length = s.size := by simp
  rw [List.take_of_length_le (by omega)] at ha
  simp only [plainB, ha, Bool.and_true]; simpa using h
set_option maxHeartbeats 400000 in
theorem rplain_any (s : ByteArray) (w : World) (hs : s.size ≤ maxLen) : Calls Tryd.prog 46 #[.string s] w (RetW (.bool (plainB s.data.toList)) w) := by
  unfold maxLen at hs
  by_cases hl : 48 < s.size
  · have hp := Lib.hid (plain_long s hl)
    go_enter Tryd.func46, Tryd.ntmps46
    go_wp2
    go_returns
    exact ⟨ret_bl hp.out.symm, rfl⟩
  · have hp := Lib.hid (plain_all s (by omega))
    go_enter Tryd.func46, Tryd.ntmps46
    go_wp2
    go_loop [3] (fun i => ∃ k : Nat, k ≤ s.size ∧ i = .int .i64 k ∧ AllTo s k) (fun i => s.size - (intOf i).toNat)
    case atStart => exact ⟨0, Nat.zero_le _, rfl, by simp [AllTo]⟩
    case round =>
      obtain ⟨k, hk, rfl, ha⟩ := hrel
      by_cases hlt : k < s.size
      · have hb := Lib.hid (plain_bad s k hlt)
        have hn := Lib.hid (all_take_succ s k hlt)
        go_wp2
        all_goals first
          | (go_round; (case rel => exact ⟨k + 1, by omega, by go_num, by unfold AllTo; rw [hn.out, Bool.and_eq_true]; exact ⟨ha, okc_ok ‹_› ‹_› (by simp_all)⟩⟩); (case measure => simp [intOf]; omega))
          | (go_returns; exact ⟨ret_bl (hb.out (by first | exact okc_lt ‹_› | exact okc_gt ‹_› | (refine okc_q ?_; simp_all; omega))).symm, rfl⟩)
      · obtain rfl : k = s.size := by omega
        go_wp2
        go_returns
        exact ⟨ret_bl (hp.out ha).symm, rfl⟩
end Go.Proofs.YtphdnfijefddlaaDoor

