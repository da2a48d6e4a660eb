/- Several texts of this proof, joined: N3, WNames. -/
import Derived.Test.YtphdnfijefddlaaDoorNM
import Derived.Test.YtphdnfijefddlaaDoorU1
import Derived.WalkKit
import Derived.ProofKit
import Derived.OpenShut
import Derived.Handy
import Derived.BigQuiet
import Derived.Lib.Hide
import Derived.WalkSmall
import Derived.WalkLawsBesides
import Derived.Test.YtphdnfijefddlaaDoorTN
import Derived.Test.YtphdnfijefddlaaDoorU5
import Derived.OwnWalk
namespace Go.Proofs.YtphdnfijefddlaaDoor
open Go.RowKit
def allS : ByteArray := ⟨allW.toArray⟩
set_option maxRecDepth 100000 in
set_option maxHeartbeats 2000000 in
theorem umeans_any (s : ByteArray) (hs : s.size ≤ 140737488351232) (w : World) : Calls Tryd.prog 17 #[.string s] w (Ret (.bool (meansB s.data.toList)) w) := by
  have hlen : s.data.toList.length = s.size := by simp
  obtain ⟨z, hz⟩ : ∃ z, spanL innL s.data.toList = z := ⟨_, rfl⟩
  have W := Lib.hid (show ∀ wx, Calls Tryd.prog 27 #[.string s, .int .i64 0] wx (RetW (.int .i64 z) wx) from fun wx => uword_any s 0 z hz (Nat.zero_le _) hs wx)
  go_enter Tryd.func17, Tryd.ntmps17
  go_upto_region 1 with (fail)
  go_cut [3] (fun v wx => v = .string allS ∧ wx = w)
  case first =>
    go_wp2
    go_meet
    exact ⟨rfl, rfl⟩
  case rest =>
    obtain ⟨rfl, rfl⟩ := hcut
    have hAz : allS.size = 134 := rfl
    have hAd : allS.data.toList = allW := rfl
    have S := fun a e hae he x hx => slice_s allS a e hae he x hx
    rw [hAz] at S
    generalize allS = A at *
    replace S := Lib.hid S
    obtain ⟨y, hcat⟩ : ∃ y, ((⟨#[32]⟩ : ByteArray) ++ s) ++ (⟨#[32]⟩ : ByteArray) = y := ⟨_, rfl⟩
    have hyd : y.data.toList = 32 :: (s.data.toList ++ [32]) := by
      rw [← hcat]
      simp
    replace hyd := Lib.hid hyd
    go_wp2
    go_loop [4] (fun v => ∃ i : Nat, i ≤ 134 ∧ v = .int .i64 i ∧ ∀ j, j < i → j + s.size + 2 ≤ 134 → (allW.drop j).take (s.size + 2) ≠ 32 :: (s.data.toList ++ [32])) (fun v => 134 - (intOf v).toNat)
    case atStart => exact ⟨0, Nat.zero_le _, rfl, fun j h => absurd h (Nat.not_lt_zero _)⟩
    case round =>
      obtain ⟨i, hi, rfl, hall⟩ := hrel
      by_cases hlt : i + s.size + 2 ≤ 134
      · obtain ⟨x, hx⟩ : ∃ x, A.extract i (i + s.size + 2) = x := ⟨_, rfl⟩
        have hxd : x.data.toList = (allW.drop i).take (s.size + 2) := by
          have := take_data A i (s.size + 2)
          rw [show i + (s.size + 2) = i + s.size + 2 by omega, hx, hAd] at this
          exact this
        have hsl : ∀ wx, (Instr.slice 9 (.string A) (some (.int .i64 (i : Int))) (some (.int .i64 ((i : Int) + s.size + 2))) none).run Tryd.prog wx = .ok (.string x) wx := by
          intro wx
          have := S.out i (i + s.size + 2) (by omega) hlt x hx wx
          rw [show ((i + s.size + 2 : Nat) : Int) = (i : Int) + s.size + 2 by omega] at this
          exact this
        rcases hq : (x.toList == y.toList)
        · have hnext := Lib.hid (show ∀ j, j < i + 1 → j + s.size + 2 ≤ 134 → (allW.drop j).take (s.size + 2) ≠ 32 :: (s.data.toList ++ [32]) from fun j hj hj2 => by
            rcases Nat.lt_or_eq_of_le (Nat.le_of_lt_succ hj) with h | rfl
            · exact hall j h hj2
            · rw [Lib.toList_data, Lib.toList_data, beq_eq_false_iff_ne, hxd, hyd.out] at hq
              exact hq)
          clear hall hx hxd hAd
          go_wp2
          go_round
          case rel => exact ⟨i + 1, by omega, by go_num, hnext.out⟩
          case measure => simp [intOf]; omega
        · have hm : meansB s.data.toList = (!(s.data.toList.length == 0) && (spanL innL s.data.toList == s.data.toList.length)) := words_match (i := i) (by rw [hlen]; exact hlt) (by
            rw [hlen]
            rw [Lib.toList_data, Lib.toList_data, beq_iff_eq, hxd, hyd.out] at hq
            exact hq)
          rw [hlen, hz] at hm
          by_cases h0 : s.size = 0
          · have hm' : meansB s.data.toList = false := by rw [hm, h0]; rfl
            replace hm' := Lib.hid hm'
            have hs0 : s = ⟨#[]⟩ := ByteArray.ext (Array.ext' (List.eq_nil_of_length_eq_zero (by rw [hlen, h0])))
            clear hall hx hxd hAd hm hz
            have he : (s.toList == []) = true := by rw [Lib.toList_data, hs0]; rfl
            clear hs0 h0
            go_wp2_with ((with_reducible refine (W.out _).mono ?_); rintro e w1 ⟨rfl, rfl⟩)
            go_returns
            exact ⟨by rw [hm'.out]; try rfl, by (first | exact gwT | exact lzT)⟩
          · have he : (s.toList == []) = false := by
              rw [Lib.toList_data, beq_eq_false_iff_ne]
              intro h
              rw [h] at hlen
              exact h0 hlen.symm
            have hm' : meansB s.data.toList = ((z : Int) == (s.size : Int)) := by
              rw [hm, show (s.size == 0) = false from beq_eq_false_iff_ne.2 h0, Bool.not_false, Bool.true_and, Bool.eq_iff_iff, beq_iff_eq, beq_iff_eq]
              omega
            replace hm' := Lib.hid hm'
            clear hall hx hxd hAd hm hz
            go_wp2_with ((with_reducible refine (W.out _).mono ?_); rintro e w1 ⟨rfl, rfl⟩)
            go_returns
            exact ⟨by rw [hm'.out]; try rfl, by (first | exact gwT | exact lzT)⟩
      · have hm : meansB s.data.toList = false := by
          rw [← Bool.not_eq_true]
          intro h
          unfold meansB at h
          rw [List.contains_iff_mem] at h
          obtain ⟨j, hj, he⟩ := words_at h
          rw [hlen] at hj he
          exact hall j (by omega) hj he
        replace hm := Lib.hid hm
        clear hall
        go_wp2
        go_returns
        exact ⟨by rw [hm.out]; try rfl, by (first | exact gwT | exact lzT)⟩
end Go.Proofs.YtphdnfijefddlaaDoor
namespace Go.Proofs.YtphdnfijefddlaaDoor
open Go.RowKit
set_option maxRecDepth 100000 in
theorem uname_no (s : ByteArray) (w : World) (T : ∀ wx, Calls Tryd.prog 16 #[.string s] wx (NotOneIs wx)) : Calls Tryd.prog 10 #[.string s] w (Ret (.bool false) w) := by
  replace T := Lib.hid T
  go_enter Tryd.func10, Tryd.ntmps10
  go_wp2_with fail
  refine (T.out _).mono ?_
  intro e w1 hr
  obtain ⟨x, j, ao, n, cap, rfl, hx, hb⟩ := hr
  clear T
  rcases hx with hx | ⟨rfl, hn⟩
  · have hx' : ¬ x = 0 := by simpa using hx
    go_wp2
    go_returns
    exact ⟨rfl, by (first | exact gwT | exact lzT)⟩
  · have hn' : ¬ (n : Int) = 1 := by simpa using hn
    go_wp2
    go_returns
    exact ⟨rfl, by (first | exact gwT | exact lzT)⟩
set_option maxRecDepth 100000 in
set_option maxHeartbeats 1000000 in
theorem uname_yes (s : ByteArray) (hs : s.size ≤ 140737488351232) (t : Tk) (w : World) (T : ∀ wx, Calls Tryd.prog 16 #[.string s] wx (OneIs t wx)) : Calls Tryd.prog 10 #[.string s] w (Ret (.bool ((t.k == 1) && decide (t.s = s.data.toList) && !meansB s.data.toList)) w) := by
  have he := txt_eq t s
  have M := Lib.hid (fun wx => umeans_any s hs wx)
  generalize meansB s.data.toList = m at *
  obtain ⟨d, hd⟩ : ∃ d, decide (t.s = s.data.toList) = d := ⟨_, rfl⟩
  rw [hd] at he ⊢
  clear hd
  unfold OneIs at T
  generalize t.k = k at *
  generalize (⟨t.s.toArray⟩ : ByteArray) = q at *
  replace T := Lib.hid T
  rcases hk : (k == 1) <;> cases d <;> cases m
  all_goals
    go_enter Tryd.func10, Tryd.ntmps10
    go_wp2_with fail
    refine (T.out _).mono ?_
    intro e w1 hr
    obtain ⟨g, cap, rfl, hg, a0, a1, hb⟩ := hr
    have hz := hb.size
    go_wp2_with ((with_reducible refine (M.out _).mono ?_); intro e w1 hr; obtain ⟨rfl, p, rfl⟩ := hr.out; clear hr)
    go_returns
    exact ⟨rfl, by (first | exact gwT | exact lzT)⟩
theorem uname_any (s : ByteArray) (hs : s.size ≤ 140737488351232) (w : World) : Calls Tryd.prog 10 #[.string s] w (Ret (.bool (nmB s.data.toList)) w) := by
  unfold nmB
  rcases hl : lexT 120 0 s.data.toList with ⟨x, j⟩ | ts
  · rw [aloneK_err hl]
    exact uname_no s w fun wx => (ulex_any s hs wx).mono fun e w' hr => notOne_err hl hr
  · by_cases hn : ts.length = 1
    · obtain ⟨t, rfl⟩ := List.length_eq_one_iff.1 hn
      have e : (aloneK s.data.toList == 1) = ((t.k == 1) && decide (t.s = s.data.toList)) := by
        rw [aloneK_one hl, Bool.eq_iff_iff]
        simp only [Bool.and_eq_true, beq_iff_eq, decide_eq_true_eq]
        split
        · constructor
          · intro h; exact ⟨h, ‹_›⟩
          · intro h; exact h.1
        · constructor
          · intro h; omega
          · intro h; exact absurd h.2 ‹_›
      rw [e]
      exact uname_yes s hs t w fun wx => (ulex_any s hs wx).mono fun e w' hr => one_of (lex_sl hl hr)
    · rw [aloneK_more hl hn]
      exact uname_no s w fun wx => (ulex_any s hs wx).mono fun e w' hr => notOne_ok hl hn hr
end Go.Proofs.YtphdnfijefddlaaDoor
