/- The law's own helper (layer 4): an expression as the document has it. -/
import Derived.Test.YtkjgfcbanlcmgaaGreatDoorXR
import Derived.WalkKit
import Derived.ProofKit
import Derived.OpenShut
import Derived.Handy
import Derived.BigQuiet
import Derived.OwnWalk
import Derived.Deep.AppendLies
import Derived.Lib.Hide
import Derived.WalkSmall
import Derived.WalkLawsBesides
namespace Go.Proofs.YtkjgfcbanlcmgaaGreatDoor
open Go.RowKit
set_option maxRecDepth 100000 in
set_option maxHeartbeats 4000000 in
theorem refs4_any (ao : Option Addr) (cap : Nat) (ns : List Nd) (hn : ns.length ≤ 2000000) (w : World) (h : NdsAt w ao ns) : Calls Tryz.prog 11 #[.slice ao ns.length cap] w (RefsIs ns w) := by
  have H := fun wx hb => nds_below (w' := wx) h hb
  replace H := Lib.hid H
  obtain ⟨j0, hj, hy1, hy2, hy3⟩ := info_parts Tryz.infoN
  clear h
  go_enter Tryz.func11, Tryz.ntmps11
  go_wp2
  go_loopw [3, 8] (fun v x wr => ∃ (i : Nat) (oa : Option Addr) (oc : Nat), x = .int .i64 (i : Int) ∧ i ≤ ns.length ∧ v = .slice oa i oc ∧ wr.ownsRow w.heap.size 61 7 (.slice oa i oc) i (ndsC (ns.take i)) ∧ Below w.heap.size w wr) (fun _ x _ => ns.length - (intOf x).toNat)
  case atStart => exact ⟨0, none, 0, rfl, Nat.zero_le _, rfl, World.ownsRow_nil _ _ _ _, by repeat' (first | (with_reducible exact Below.refl _ _) | (with_reducible assumption) | (with_reducible refine Below.alloc ?_ ?_ _) | (with_reducible refine Below.drew ?_) | (with_reducible refine belowN ?_ _) | (with_reducible refine Below.setCell ?_ ?_ _) | (with_reducible refine belowG ?_ ?_) | (with_reducible exact Nat.le_refl _) | (with_reducible refine le_sizeG ?_) | (with_reducible refine le_sizeA ?_) | (with_reducible refine le_sizeC ?_) | (with_reducible refine le_sizeD ?_) | (with_reducible refine le_sizeN ?_) | go_size | (simp [go_sem]; done))⟩
  case round =>
    obtain ⟨i, oa, oc, rfl, hi, rfl, hown, hb⟩ := hrel
    rename World => wr
    have hwz := hb.size
    by_cases hlt : i < ns.length
    · obtain ⟨g, o, rfl, hg, hc⟩ := H.out wr hb (by omega)
      obtain ⟨n1, n2, n3, n4, n5, n6, n7⟩ := hc i hlt
      have htk := Lib.hid (ndsC_take ns i hlt)
      have hndc := Lib.hid (rfl : ndC ns[i] = ndC ns[i])
      obtain ⟨n, hnn⟩ : ∃ n, ns[i] = n := ⟨_, rfl⟩
      rw [hnn] at n1 n2 n3 n4 n5 n6 n7 htk
      have i1 : InW g wr := ⟨hg⟩
      clear hc hndc hnn
      have hI : (i : Int) < (ns.length : Int) := by omega
      have hownK := Lib.hid hown
      clear hown
      go_wp2_with (at_builtin; refine wpList_append_lies _ rfl _ _ 39 rfl w.heap.size 61 j0 _ 7 72 Tryz.underlying39 hj hy1 hy2 hy3 rfl (by decide) (.slice oa i oc) i (ndsC (ns.take i)) rfl (owns_below hownK.out (by repeat' (first | (with_reducible exact Below.refl _ _) | (with_reducible assumption) | (with_reducible refine Below.alloc ?_ ?_ _) | (with_reducible refine Below.drew ?_) | (with_reducible refine belowN ?_ _) | (with_reducible refine Below.setCell ?_ ?_ _) | (with_reducible refine belowG ?_ ?_) | (with_reducible exact Nat.le_refl _) | (with_reducible refine le_sizeG ?_) | (with_reducible refine le_sizeA ?_) | (with_reducible refine le_sizeC ?_) | (with_reducible refine le_sizeD ?_) | (with_reducible refine le_sizeN ?_) | go_size | (simp [go_sem]; done)))) ⟨_, 0, none⟩ 1 1 (ndC n) rfl rfl (World.news_of_block (new_at (by simp))) (by intro u hu; simp [ndC] at hu; rcases hu with rfl | rfl | rfl | rfl | rfl | rfl | rfl <;> rfl) (by decide) (by unfold maxLen; omega) (by omega) (by simp [go_sem]; omega) _ rfl ?_)
      intro g' cap' w1 hown1 hgrow hat1 hg1
      have hb1 : Below w.heap.size w w1 := Below.grown (by repeat' (first | (with_reducible exact Below.refl _ _) | (with_reducible assumption) | (with_reducible refine Below.alloc ?_ ?_ _) | (with_reducible refine Below.drew ?_) | (with_reducible refine belowN ?_ _) | (with_reducible refine Below.setCell ?_ ?_ _) | (with_reducible refine belowG ?_ ?_) | (with_reducible exact Nat.le_refl _) | (with_reducible refine le_sizeG ?_) | (with_reducible refine le_sizeA ?_) | (with_reducible refine le_sizeC ?_) | (with_reducible refine le_sizeD ?_) | (with_reducible refine le_sizeN ?_) | go_size | (simp [go_sem]; done))) hgrow (by simp [go_sem]; omega) (fun k hk => (hownK.out.lt k hk).1)
      have hown2 := Lib.hid hown1
      clear hown1 hgrow hat1 hg1 hownK hb
      go_wp2
      go_roundw
      case rel => exact ⟨i + 1, _, cap', by go_num, by omega, rfl, by rw [htk.out]; exact hown2.out, hb1⟩
      case measure => simp [intOf]; omega
    · obtain rfl : i = ns.length := by omega
      rw [List.take_length] at hown
      have hN := Lib.hid (ndsL_own hown)
      clear hown
      go_wp2
      go_returns
      exact ⟨_, _, rfl, hN.out, hb⟩
end Go.Proofs.YtkjgfcbanlcmgaaGreatDoor

