/- The law's own helpers: an expression as the document has it, and whether two are the same. -/
import Derived.Test.YtifnoopcophgoaaGreatDoorXB
import Derived.WalkKit
import Derived.ProofKit
import Derived.OpenShut
import Derived.Handy
import Derived.BigQuiet
import Derived.OwnWalk
import Derived.Deep.AppendLies
import Derived.Lib.Hide
import Derived.WalkSmall
import Derived.WalkLawsBesides
namespace Go.Proofs.YtifnoopcophgoaaGreatDoor
open Go.RowKit
theorem Tryz.infoN : (Tryz.prog.info? 51).map (fun i => (i.zero, i.size, i.bytes)) = some (some (.agg #[.int .i64 0, .int .i64 0, .int .i64 0, .string ⟨#[]⟩, .string ⟨#[]⟩, .int .i64 0, .int .i64 0]), 7, 72) := by kernel_rfl
theorem new_at {w : World} {o : Obj} {b : Nat} (h : b = w.heap.size) : (w.alloc o).heap[b]? = some o := by rw [h]; exact heap_alloc_new w o
def RefsIs (ns : List Nd) (w : World) (e : Ending) (w' : World) : Prop := ∃ ao cap, e = .returned (.slice ao ns.length cap) ∧ NdsAt w' ao ns ∧ Below w.heap.size w w'
theorem ndsC_take (ns : List Nd) (i : Nat) (h : i < ns.length) : ndsC (ns.take (i + 1)) = ndsC (ns.take i) ++ ndC ns[i] := by
  rw [List.take_succ_eq_append_getElem h, ndsC_snoc]
theorem ndsL_at : ∀ (ns : List Nd) (i : Nat) (h : i < ns.length) (j : Nat), j < 7 → (ndsC ns)[i * 7 + j]? = (ndC ns[i])[j]?
  | [], i, h, _, _ => absurd h (Nat.not_lt_zero _)
  | t :: r, 0, _, j, hj => by
    unfold ndsC
    rw [List.flatMap_cons, Nat.zero_mul, Nat.zero_add, List.getElem?_append_left (by simpa [ndC] using hj)]
    rfl
  | t :: r, i + 1, h, j, hj => by
    have ih := ndsL_at r i (by simpa using h) j hj
    unfold ndsC at *
    rw [List.flatMap_cons, List.getElem?_append_right (by simp [ndC]; omega), show (i + 1) * 7 + j - (ndC t).length = i * 7 + j by simp [ndC]; omega, ih]
    rfl
theorem ndsL_own {w : World} {B cap : Nat} {e : TypeId} {na : Option Addr} {ns : List Nd} (h : w.ownsRow B e 7 (.slice na ns.length cap) ns.length (ndsC ns)) : NdsAt w na ns := by
  intro h0
  rcases h.2 with ⟨_, hn⟩ | ⟨g, cap', cur, hv, hb, hg, _⟩
  · omega
  · cases hv
    have hc := h.cells (g := g) rfl
    have hadd : ∀ j, (⟨g, 0, none⟩ : Addr).add j = ⟨g, j, none⟩ := fun j => by unfold Addr.add; split <;> simp_all
    refine ⟨g, 0, rfl, (Array.getElem?_eq_some_iff.1 hg).1, fun i hi => ?_⟩
    rw [Nat.zero_add]
    refine ⟨?_, ?_, ?_, ?_, ?_, ?_, ?_⟩
    · rw [← hadd]; exact hc _ _ ((ndsL_at ns i hi 0 (by decide)).trans rfl)
    · rw [← hadd]; exact hc _ _ ((ndsL_at ns i hi 1 (by decide)).trans rfl)
    · rw [← hadd]; exact hc _ _ ((ndsL_at ns i hi 2 (by decide)).trans rfl)
    · rw [← hadd]; exact hc _ _ ((ndsL_at ns i hi 3 (by decide)).trans rfl)
    · rw [← hadd]; exact hc _ _ ((ndsL_at ns i hi 4 (by decide)).trans rfl)
    · rw [← hadd]; exact hc _ _ ((ndsL_at ns i hi 5 (by decide)).trans rfl)
    · rw [← hadd]; exact hc _ _ ((ndsL_at ns i hi 6 (by decide)).trans rfl)
set_option maxRecDepth 100000 in
set_option maxHeartbeats 4000000 in
theorem refs_any (ao : Option Addr) (cap : Nat) (ns : List Nd) (hn : ns.length ≤ 100000) (w : World) (h : NdsAt w ao ns) : Calls Tryz.prog 8 #[.slice ao ns.length cap] w (RefsIs ns w) := by
  have H := fun wx hb => nds_below (w' := wx) h hb
  replace H := Lib.hid H
  obtain ⟨j0, hj, hy1, hy2, hy3⟩ := info_parts Tryz.infoN
  clear h
  go_enter Tryz.func8, Tryz.ntmps8
  go_wp2
  go_loopw [3, 8] (fun v x wr => ∃ (i : Nat) (oa : Option Addr) (oc : Nat), x = .int .i64 (i : Int) ∧ i ≤ ns.length ∧ v = .slice oa i oc ∧ wr.ownsRow w.heap.size 51 7 (.slice oa i oc) i (ndsC (ns.take i)) ∧ Below w.heap.size w wr) (fun _ x _ => ns.length - (intOf x).toNat)
  case atStart => exact ⟨0, none, 0, rfl, Nat.zero_le _, rfl, World.ownsRow_nil _ _ _ _, by repeat' (first | (with_reducible exact Below.refl _ _) | (with_reducible assumption) | (with_reducible refine Below.alloc ?_ ?_ _) | (with_reducible refine Below.drew ?_) | (with_reducible refine belowN ?_ _) | (with_reducible refine Below.setCell ?_ ?_ _) | (with_reducible refine belowG ?_ ?_) | (with_reducible exact Nat.le_refl _) | (with_reducible refine le_sizeG ?_) | (with_reducible refine le_sizeA ?_) | (with_reducible refine le_sizeC ?_) | (with_reducible refine le_sizeD ?_) | (with_reducible refine le_sizeN ?_) | go_size | (simp [go_sem]; done))⟩
  case round =>
    obtain ⟨i, oa, oc, rfl, hi, rfl, hown, hb⟩ := hrel
    rename World => wr
    have hwz := hb.size
    by_cases hlt : i < ns.length
    · obtain ⟨g, o, rfl, hg, hc⟩ := H.out wr hb (by omega)
      obtain ⟨n1, n2, n3, n4, n5, n6, n7⟩ := hc i hlt
      have htk := Lib.hid (ndsC_take ns i hlt)
      have hndc := Lib.hid (rfl : ndC ns[i] = ndC ns[i])
      obtain ⟨n, hnn⟩ : ∃ n, ns[i] = n := ⟨_, rfl⟩
      rw [hnn] at n1 n2 n3 n4 n5 n6 n7 htk
      have i1 : InW g wr := ⟨hg⟩
      clear hc hndc hnn
      have hI : (i : Int) < (ns.length : Int) := by omega
      have hownK := Lib.hid hown
      clear hown
      go_wp2_with (at_builtin; refine wpList_append_lies _ rfl _ _ 32 rfl w.heap.size 51 j0 _ 7 72 Tryz.underlying32 hj hy1 hy2 hy3 rfl (by decide) (.slice oa i oc) i (ndsC (ns.take i)) rfl (owns_below hownK.out (by repeat' (first | (with_reducible exact Below.refl _ _) | (with_reducible assumption) | (with_reducible refine Below.alloc ?_ ?_ _) | (with_reducible refine Below.drew ?_) | (with_reducible refine belowN ?_ _) | (with_reducible refine Below.setCell ?_ ?_ _) | (with_reducible refine belowG ?_ ?_) | (with_reducible exact Nat.le_refl _) | (with_reducible refine le_sizeG ?_) | (with_reducible refine le_sizeA ?_) | (with_reducible refine le_sizeC ?_) | (with_reducible refine le_sizeD ?_) | (with_reducible refine le_sizeN ?_) | go_size | (simp [go_sem]; done)))) ⟨_, 0, none⟩ 1 1 (ndC n) rfl rfl (World.news_of_block (new_at (by simp))) (by intro u hu; simp [ndC] at hu; rcases hu with rfl | rfl | rfl | rfl | rfl | rfl | rfl <;> rfl) (by decide) (by unfold maxLen; omega) (by omega) (by simp [go_sem]; omega) _ rfl ?_)
      intro g' cap' w1 hown1 hgrow hat1 hg1
      have hb1 : Below w.heap.size w w1 := Below.grown (by repeat' (first | (with_reducible exact Below.refl _ _) | (with_reducible assumption) | (with_reducible refine Below.alloc ?_ ?_ _) | (with_reducible refine Below.drew ?_) | (with_reducible refine belowN ?_ _) | (with_reducible refine Below.setCell ?_ ?_ _) | (with_reducible refine belowG ?_ ?_) | (with_reducible exact Nat.le_refl _) | (with_reducible refine le_sizeG ?_) | (with_reducible refine le_sizeA ?_) | (with_reducible refine le_sizeC ?_) | (with_reducible refine le_sizeD ?_) | (with_reducible refine le_sizeN ?_) | go_size | (simp [go_sem]; done))) hgrow (by simp [go_sem]; omega) (fun k hk => (hownK.out.lt k hk).1)
      have hown2 := Lib.hid hown1
      clear hown1 hgrow hat1 hg1 hownK hb
      go_wp2
      go_roundw
      case rel => exact ⟨i + 1, _, cap', by go_num, by omega, rfl, by rw [htk.out]; exact hown2.out, hb1⟩
      case measure => simp [intOf]; omega
    · obtain rfl : i = ns.length := by omega
      rw [List.take_length] at hown
      have hN := Lib.hid (ndsL_own hown)
      clear hown
      go_wp2
      go_returns
      exact ⟨_, _, rfl, hN.out, hb⟩
set_option maxRecDepth 100000 in
set_option maxHeartbeats 4000000 in
theorem same_any (ao : Option Addr) (cap : Nat) (bo : Option Addr) (bap : Nat) (ns : List Nd) (hn : ns.length ≤ 100000) (w : World) (h : NdsAt w ao ns) (k : NdsAt w bo ns) : Calls Tryz.prog 7 #[.slice ao ns.length cap, .slice bo ns.length bap] w (Ret (.bool true) w) := by
  have R := Lib.hid (refs_any ao cap ns hn w h)
  have K := fun wx hb => nds_below (w' := wx) k hb
  replace K := Lib.hid K
  clear h k
  go_enter Tryz.func7, Tryz.ntmps7
  go_wp2_with fail
  refine (R.out).mono ?_
  intro e w1 hr
  obtain ⟨ro, rc, rfl, hr1, hb1⟩ := hr
  have H := fun wx hb => nds_below (w' := wx) hr1 hb
  replace H := Lib.hid H
  have hz1 := hb1.size
  clear R hr1
  go_wp2
  go_loopw [15] (fun x wr => ∃ (i : Nat), x = .int .i64 (i : Int) ∧ i ≤ ns.length ∧ Below w1.heap.size w1 wr) (fun x _ => ns.length - (intOf x).toNat)
  case atStart => exact ⟨0, rfl, Nat.zero_le _, by repeat' (first | (with_reducible exact Below.refl _ _) | (with_reducible assumption) | (with_reducible refine Below.alloc ?_ ?_ _) | (with_reducible refine Below.drew ?_) | (with_reducible refine belowN ?_ _) | (with_reducible refine Below.setCell ?_ ?_ _) | (with_reducible refine belowG ?_ ?_) | (with_reducible exact Nat.le_refl _) | (with_reducible refine le_sizeG ?_) | (with_reducible refine le_sizeA ?_) | (with_reducible refine le_sizeC ?_) | (with_reducible refine le_sizeD ?_) | (with_reducible refine le_sizeN ?_) | go_size | (simp [go_sem]; done))⟩
  case round =>
    obtain ⟨i, rfl, hi, hb⟩ := hrel
    rename World => wr
    have hwz := hb.size
    have hbw : Below w.heap.size w wr := hb1.trans (hb.mono hz1)
    by_cases hlt : i < ns.length
    · obtain ⟨g, o, rfl, hg, hc⟩ := H.out wr hb (by omega)
      obtain ⟨n1, n2, n3, n4, n5, n6, n7⟩ := hc i hlt
      obtain ⟨g2, o2, rfl, hg2, hc2⟩ := K.out wr hbw (by omega)
      obtain ⟨m1, m2, m3, m4, m5, m6, m7⟩ := hc2 i hlt
      generalize ns[i] = n at *
      have i1 : InW g wr := ⟨hg⟩
      have i2 : InW g2 wr := ⟨hg2⟩
      have hI : (i : Int) < (ns.length : Int) := by omega
      clear hc hc2
      go_wp2_with fail
      (refine wp_region_G (by kernel_rfl) (by kernel_rfl) ?_; (repeat (go_big_quiet_step (fail))); refine wpQuiet_nil ?_; intro _ hw'; obtain ⟨pg, hw''⟩ := hw'; subst hw'')
      go_wp2
      go_roundw
      case rel => exact ⟨i + 1, by go_num, by omega, by repeat' (first | (with_reducible exact Below.refl _ _) | (with_reducible assumption) | (with_reducible refine Below.alloc ?_ ?_ _) | (with_reducible refine Below.drew ?_) | (with_reducible refine belowN ?_ _) | (with_reducible refine Below.setCell ?_ ?_ _) | (with_reducible refine belowG ?_ ?_) | (with_reducible exact Nat.le_refl _) | (with_reducible refine le_sizeG ?_) | (with_reducible refine le_sizeA ?_) | (with_reducible refine le_sizeC ?_) | (with_reducible refine le_sizeD ?_) | (with_reducible refine le_sizeN ?_) | go_size | (simp [go_sem]; done))⟩
      case measure => simp [intOf]; omega
    · have hI : ¬ (i : Int) < (ns.length : Int) := by omega
      go_wp2
      go_returns
      exact ⟨rfl, hbw⟩
end Go.Proofs.YtifnoopcophgoaaGreatDoor

