/- EventMatches: an event is called for by a name just if the document says so. -/
import Derived.Test.YtphdnfijefddlaaE4
import Derived.Test.YtphdnfijefddlaaTO
import Derived.Test.YtphdnfijefddlaaKA
import Derived.WalkKit
import Derived.ProofKit
import Derived.OpenShut
import Derived.Handy
import Derived.BigQuiet
import Derived.Lib.Hide
import Derived.WalkSmall
import Derived.WalkLawsBesides
namespace Go.Proofs.Ytphdnfijefddlaa
open Go.RowKit
set_option maxRecDepth 100000 in
theorem ematches_long (n : ByteArray) (ao : Option Addr) (len cap : Nat) (hm : len ≤ maxLen) (hl : 50 < len) (w : World) : Calls Try.prog 3 #[.string n, .slice ao len cap] w (Ret (.bool true) w) := by
  unfold maxLen at hm
  have A := Lib.hid (anchor12_any w)
  have hI : (50 : Int) < (len : Int) := by omega
  go_enter Try.func3, Try.ntmps3
  go_wp2_with (first | ((with_reducible refine (A.out).mono ?_); intro e w1 hr; obtain ⟨rfl, p, rfl⟩ := hr.out; clear hr))
  go_returns
  exact ⟨rfl, by (first | exact gwT | exact lzT)⟩
set_option maxRecDepth 100000 in
set_option maxHeartbeats 1000000 in
theorem ematches_short (n : ByteArray) (ao : Option Addr) (cap : Nat) (cs : List ByteArray) (hl : cs.length ≤ 50) (w : World) (h : StrsAt w ao cs) : Calls Try.prog 3 #[.string n, .slice ao cs.length cap] w (Ret (.bool true) w) := by
  have A := Lib.hid (anchor12_any w)
  have hI : ¬ (50 : Int) < (cs.length : Int) := by omega
  have F := Lib.hid (fun wx (hb : Below w.heap.size w wx) => efirst_any n ao cap cs (by omega) wx (strs_txts (strs_below h hb)))
  have M := Lib.hid (fun c wx => ematch_any c n wx)
  have R := Lib.hid (fun c wx => ermatch_any c n wx)
  have hA := Lib.hid (fun i h => emF_at n cs i h)
  have hE := Lib.hid (emF_end n cs cs.length (Nat.le_refl _))
  have hZ := Lib.hid (show emF n (cs.drop 0) 0 = emF n cs 0 by rw [List.drop_zero])
  replace h := Lib.hid (fun wx (hb : Below w.heap.size w wx) => strs_below h hb)
  go_enter Try.func3, Try.ntmps3
  go_wp2_with (first | ((with_reducible refine (A.out).mono ?_); intro e w1 hr; obtain ⟨rfl, p, rfl⟩ := hr.out; clear hr))
  go_loopw [5, 6] (fun v5 v6 wr => ∃ k : Nat, k ≤ cs.length ∧ v6 = .int .i64 ((k : Int) - 1) ∧ v5 = .int .i64 (emF n (cs.drop k) k) ∧ Below w.heap.size w wr) (fun _ v6 _ => (intOf v6 + 1).toNat)
  case atStart => exact ⟨cs.length, Nat.le_refl _, rfl, by rw [hE.out], by (first | exact gwT | exact lzT)⟩
  case round =>
    obtain ⟨k, hk, rfl, rfl, hb⟩ := hrel
    rename World => wr
    have hwz := hb.size
    cases k with
    | zero =>
      have hge : ¬ (0 : Int) ≤ ((0 : Nat) : Int) - 1 := by omega
      have F' := Lib.hid (fun wx (hx : Below wr.heap.size wr wx) => F.out wx (hb.trans (hx.mono hwz)))
      rw [hZ.out]
      generalize emF n cs 0 = f at *
      clear F hA hE hZ
      go_wp2_with (first | ((with_reducible refine (F'.out _ (by (first | exact gwT | exact lzT))).mono ?_); intro e w1 hr; obtain ⟨rfl, p, rfl⟩ := hr.out; clear hr))
      go_returns
      exact ⟨by simp, by (first | exact gwT | exact lzT)⟩
    | succ k =>
      obtain ⟨g, o, rfl, hg, hc⟩ := h.out wr hb (by omega)
      have c1 := hc k (by omega)
      have i1 : InW g wr := ⟨hg⟩
      have hm := hA.out k (by omega)
      have hK : (((k + 1 : Nat) : Int) - 1) = (k : Int) := by omega
      rw [hK]
      have hI2 : (0 : Int) ≤ (k : Int) := by omega
      have hI3 : (k : Int) < (cs.length : Int) := by omega
      have M1 := Lib.hid (fun wx => M.out cs[k] wx)
      have R1 := Lib.hid (fun wx => R.out cs[k] wx)
      generalize cs[k] = c at *
      generalize emF n (cs.drop (k + 1)) (k + 1) = f at *
      obtain ⟨b, hbb⟩ : ∃ b, emB c n = b := ⟨_, rfl⟩
      rw [hbb] at M1 R1 hm
      replace hm := Lib.hid hm
      clear hc M R F hA hE hZ hbb
      cases b
      all_goals
        go_wp2
        (refine wp_region_G (by kernel_rfl) (by kernel_rfl) ?_; (repeat (go_big_quiet_step ((first | exact quietGW (M1.out _) | exact quietGW (R1.out _))))); refine wpQuiet_nil ?_; intro _ hw'; obtain ⟨pg, hw''⟩ := hw'; subst hw'')
        go_wp2_with (first | ((with_reducible refine (R1.out _).mono ?_); rintro e w1 ⟨rfl, rfl⟩))
        go_roundw
        case rel => exact ⟨k, by omega, by go_num, by rw [hm.out]; rfl, by (first | exact gwT | exact lzT)⟩
        case measure => simp [intOf]
theorem ematches_walk (n : ByteArray) (v : Value) (w : World) (S : ∃ (ao : Option Addr) (ss : List ByteArray) (cap : Nat), v = .slice ao ss.length cap ∧ ss.length ≤ maxLen ∧ StrsAt w ao ss) : Calls Try.prog 3 #[.string n, v] w (Ret (.bool true) w) := by
  obtain ⟨ao, ss, cap, rfl, hm, hs⟩ := S
  by_cases hl : 50 < ss.length
  · exact ematches_long n ao ss.length cap hm hl w
  · exact ematches_short n ao cap ss (by omega) w hs
end Go.Proofs.Ytphdnfijefddlaa
