/- The anchor; QueueTimers; QueueParts. -/
import Derived.Test.YthpofpndlkhciaaQH
import Derived.WalkKit
import Derived.ProofKit
import Derived.OpenShut
import Derived.Handy
import Derived.BigQuiet
import Derived.OwnWalk
import Derived.Lib.Hide
import Derived.WalkSmall
import Derived.WalkLawsBesides
namespace Go.Proofs.Ythpofpndlkhciaa
open Go.RowKit
theorem tms_new {T : TypeId} {w : World} {b : Nat} {cs : Array Value} {l : List Tm} (h : w.heap[b]? = some (.cells cs T (0, 0))) (e : cs.toList = tmsC l) (hm : l.length ≤ maxLen) : TmsAt T w (some ⟨b, 0, none⟩) l.length l := by
  have hs : cs.size = l.length * 3 := by rw [← tms_len, ← e, Array.length_toList]
  exact ⟨0, tms_len l, .inr ⟨b, l.length, cs, rfl, Nat.zero_le _, h, Nat.le_refl _, hm, hs, by rw [e, List.take_of_length_le (by rw [tms_len]; exact Nat.le_refl _)]⟩⟩
set_option maxRecDepth 100000 in
set_option maxHeartbeats 4000000 in
theorem anchor13_any (w : World) : Calls Try.prog 6 #[] w (Ret (.bool true) w) := by
  have A := Lib.hid (fun wx h => arm_any (some ⟨w.heap.size, 0, none⟩) 1 [⟨5, 0, ⟨#[98]⟩⟩] ⟨3, 0, ⟨#[97]⟩⟩ (by decide) wx h)
  have D := Lib.hid (fun ao c wx h => due_any ao c [⟨3, 0, ⟨#[97]⟩⟩, ⟨5, 0, ⟨#[98]⟩⟩] 4 (by decide) wx h)
  have eA : armL [⟨5, 0, ⟨#[98]⟩⟩] ⟨3, 0, ⟨#[97]⟩⟩ = [⟨3, 0, ⟨#[97]⟩⟩, ⟨5, 0, ⟨#[98]⟩⟩] := rfl
  have eD : dueT [⟨3, 0, ⟨#[97]⟩⟩, ⟨5, 0, ⟨#[98]⟩⟩] 4 = [⟨3, 0, ⟨#[97]⟩⟩] := rfl
  have eL : leftT [⟨3, 0, ⟨#[97]⟩⟩, ⟨5, 0, ⟨#[98]⟩⟩] 4 = [⟨5, 0, ⟨#[98]⟩⟩] := rfl
  unfold ArmIs at A
  unfold DueIs at D
  rw [eA] at A
  rw [eD, eL] at D
  clear eA eD eL
  go_enter Try.func6, Try.ntmps6
  go_wp2_with fail
  refine (A.out _ (tms_new (l := [⟨5, 0, ⟨#[98]⟩⟩]) (heap_alloc_new w _) rfl (by decide))).mono ?_
  rintro e w1 ⟨oa, oc, rfl, hown, hb1⟩
  have hb : Below w.heap.size w w1 := Below.trans (show Below w.heap.size w _ by (first | exact gwT | exact lzT)) (hb1.mono (by simp))
  replace hown := Lib.hid hown
  clear A hb1
  dsimp only
  go_wp2_with fail
  refine (D.out oa oc w1 ⟨_, hown.out⟩).mono ?_
  rintro e w2 ⟨na, nc, ra, rc, rfl, h1, h2, hb2⟩
  have hb3 := hb.trans (hb2.mono hb.size)
  obtain ⟨g1, _, e1, hg1, _, _, k1⟩ := own_head h1 (by decide)
  obtain ⟨g2, _, e2, hg2, _, _, k2⟩ := own_head h2 (by decide)
  cases e1
  cases e2
  have n1 := k1 0 _ rfl
  have n2 := k2 2 _ rfl
  have i1 : InW g1 w2 := ⟨hg1⟩
  have i2 : InW g2 w2 := ⟨hg2⟩
  clear D hown h1 h2 k1 k2 hb2
  dsimp only
  go_wp2
  go_returns
  exact ⟨rfl, hb3⟩
end Go.Proofs.Ythpofpndlkhciaa

