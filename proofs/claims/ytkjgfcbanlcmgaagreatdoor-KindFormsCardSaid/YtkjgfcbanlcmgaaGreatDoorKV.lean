/- The law's own helper (layer 4): variables as the document has them. -/
import Derived.Test.YtkjgfcbanlcmgaaGreatDoorY7
import Derived.Test.YtkjgfcbanlcmgaaGreatDoorXR
import Derived.WalkKit
import Derived.ProofKit
import Derived.OpenShut
import Derived.Handy
import Derived.BigQuiet
import Derived.OwnWalk
import Derived.Deep.AppendLies
import Derived.Lib.Hide
import Derived.WalkSmall
import Derived.WalkLawsBesides
namespace Go.Proofs.YtkjgfcbanlcmgaaGreatDoor
open Go.RowKit
theorem Tryz.infoV4 : (Tryz.prog.info? 47).map (fun i => (i.zero, i.size, i.bytes)) = some (some (.agg #[.string ⟨#[]⟩, .int .i64 0]), 2, 24) := by kernel_rfl
def varC (v : ByteArray × Int) : List Value := [.string v.1, .int .i64 v.2]
def varsC (vs : List (ByteArray × Int)) : List Value := vs.flatMap varC
theorem varsC_take (vs : List (ByteArray × Int)) (i : Nat) (h : i < vs.length) : varsC (vs.take (i + 1)) = varsC (vs.take i) ++ varC vs[i] := by
  unfold varsC
  rw [List.take_succ_eq_append_getElem h, List.flatMap_append, List.flatMap_cons, List.flatMap_nil, List.append_nil]
theorem varsC_at : ∀ (vs : List (ByteArray × Int)) (i : Nat) (h : i < vs.length) (j : Nat), j < 2 → (varsC vs)[i * 2 + j]? = (varC vs[i])[j]?
  | [], i, h, _, _ => absurd h (Nat.not_lt_zero _)
  | t :: r, 0, _, j, hj => by
    unfold varsC
    rw [List.flatMap_cons, Nat.zero_mul, Nat.zero_add, List.getElem?_append_left (by simpa [varC] using hj)]
    rfl
  | t :: r, i + 1, h, j, hj => by
    have ih := varsC_at r i (by simpa using h) j hj
    unfold varsC at *
    rw [List.flatMap_cons, List.getElem?_append_right (by simp [varC]; omega), show (i + 1) * 2 + j - (varC t).length = i * 2 + j by simp [varC]; omega, ih]
    rfl
theorem vars_own {w : World} {B cap : Nat} {e : TypeId} {na : Option Addr} {vs : List (ByteArray × Int)} (h : w.ownsRow B e 2 (.slice na vs.length cap) vs.length (varsC vs)) : VarsAt w na vs := by
  intro h0
  rcases h.2 with ⟨_, hn⟩ | ⟨g, cap', cur, hv, hb, hg, _⟩
  · omega
  · cases hv
    have hc := h.cells (g := g) rfl
    have hadd : ∀ j, (⟨g, 0, none⟩ : Addr).add j = ⟨g, j, none⟩ := fun j => by unfold Addr.add; split <;> simp_all
    refine ⟨g, 0, rfl, (Array.getElem?_eq_some_iff.1 hg).1, fun i hi => ?_⟩
    rw [Nat.zero_add]
    refine ⟨?_, ?_⟩
    · rw [← hadd]; exact hc _ _ ((varsC_at vs i hi 0 (by decide)).trans rfl)
    · rw [← hadd]; exact hc _ _ ((varsC_at vs i hi 1 (by decide)).trans rfl)
def kindB (v : ByteArray × Int) : Bool := decide (1 ≤ v.2) && decide (v.2 ≤ 3)
def kindsB (vs : List (ByteArray × Int)) : Bool := vs.all kindB
theorem kindsB_take (vs : List (ByteArray × Int)) (i : Nat) (h : i < vs.length) : kindsB (vs.take (i + 1)) = (kindsB (vs.take i) && kindB vs[i]) := by
  unfold kindsB
  rw [List.take_succ_eq_append_getElem h, List.all_append]
  simp
theorem kindsB_not (vs : List (ByteArray × Int)) (i : Nat) (h : i < vs.length) (hk : kindB vs[i] = false) : kindsB vs = false := by
  unfold kindsB
  rw [List.all_eq_false]
  exact ⟨vs[i], List.getElem_mem h, by rw [hk]; exact Bool.false_ne_true⟩
/-- What vars tells: variables of which one has no kind, or that are too many; or they lie where the slice says. -/
def VarsIs (vs : List (ByteArray × Int)) (w : World) (e : Ending) (w' : World) : Prop :=
  if kindsB vs = true ∧ vs.length ≤ 100 then (∃ ao cap, e = .returned (.tuple #[.slice ao vs.length cap, .bool true]) ∧ VarsAt w' ao vs ∧ Below w.heap.size w w')
  else ∃ v, e = .returned (.tuple #[v, .bool false]) ∧ Below w.heap.size w w'
set_option maxRecDepth 100000 in
set_option maxHeartbeats 4000000 in
theorem vars_any (ao : Option Addr) (cap : Nat) (vs : List (ByteArray × Int)) (hm : vs.length ≤ maxLen) (hz : vs.length * 24 ≤ 140737488355328) (w : World) (h : VarsAt w ao vs) : Calls Tryz.prog 7 #[.slice ao vs.length cap] w (VarsIs vs w) := by
  unfold maxLen at hm
  have H := Lib.hid (fun wx hb => vars_below (w' := wx) h hb)
  obtain ⟨j0, hj, hy1, hy2, hy3⟩ := info_parts Tryz.infoV4
  have htake := Lib.hid (fun i h => kindsB_take vs i h)
  have hnot := Lib.hid (fun i h => kindsB_not vs i h)
  clear h
  go_enter Tryz.func7, Tryz.ntmps7
  go_wp2
  go_loopw [4, 9] (fun v x wr => ∃ (i : Nat) (oa : Option Addr) (oc : Nat), x = .int .i64 (i : Int) ∧ i ≤ vs.length ∧ v = .slice oa i oc ∧ wr.ownsRow w.heap.size 47 2 (.slice oa i oc) i (varsC (vs.take i)) ∧ kindsB (vs.take i) = true ∧ Below w.heap.size w wr) (fun _ x _ => vs.length - (intOf x).toNat)
  case atStart => exact ⟨0, none, 0, rfl, Nat.zero_le _, rfl, World.ownsRow_nil _ _ _ _, rfl, by repeat' (first | (with_reducible exact Below.refl _ _) | (with_reducible assumption) | (with_reducible refine Below.alloc ?_ ?_ _) | (with_reducible refine Below.drew ?_) | (with_reducible refine belowN ?_ _) | (with_reducible refine Below.setCell ?_ ?_ _) | (with_reducible refine belowG ?_ ?_) | (with_reducible exact Nat.le_refl _) | (with_reducible refine le_sizeG ?_) | (with_reducible refine le_sizeA ?_) | (with_reducible refine le_sizeC ?_) | (with_reducible refine le_sizeD ?_) | (with_reducible refine le_sizeN ?_) | go_size | (simp [go_sem]; done))⟩
  case round =>
    obtain ⟨i, oa, oc, rfl, hi, rfl, hown, hks, hb⟩ := hrel
    rename World => wr
    have hwz := hb.size
    have hksK := Lib.hid hks
    clear hks
    by_cases hlt : i < vs.length
    · obtain ⟨g, o, rfl, hg, hc⟩ := H.out wr hb (by omega)
      obtain ⟨n1, n2⟩ := hc i hlt
      have htk := Lib.hid (varsC_take vs i hlt)
      have ht := Lib.hid (htake.out i hlt)
      have hn := Lib.hid (hnot.out i hlt)
      unfold kindB at ht hn
      obtain ⟨n, hnn⟩ : ∃ n, vs[i] = n := ⟨_, rfl⟩
      rw [hnn] at n1 n2 htk ht hn
      obtain ⟨s, k⟩ := n
      simp only at n1 n2 ht hn
      have i1 : InW g wr := ⟨hg⟩
      clear hc hnn
      have hI : (i : Int) < (vs.length : Int) := by omega
      have hownK := Lib.hid hown
      clear hown
      by_cases h1 : k < 1
      · have hbad := Lib.hid (hn.out (by rw [decide_eq_false (by omega)]; rfl))
        go_wp2
        go_returns
        unfold VarsIs
        rw [if_neg (fun h => by rw [hbad.out] at h; cases h.1)]
        exact ⟨_, rfl, by repeat' (first | (with_reducible exact Below.refl _ _) | (with_reducible assumption) | (with_reducible refine Below.alloc ?_ ?_ _) | (with_reducible refine Below.drew ?_) | (with_reducible refine belowN ?_ _) | (with_reducible refine Below.setCell ?_ ?_ _) | (with_reducible refine belowG ?_ ?_) | (with_reducible exact Nat.le_refl _) | (with_reducible refine le_sizeG ?_) | (with_reducible refine le_sizeA ?_) | (with_reducible refine le_sizeC ?_) | (with_reducible refine le_sizeD ?_) | (with_reducible refine le_sizeN ?_) | go_size | (simp [go_sem]; done))⟩
      · by_cases h3 : 3 < k
        · have hbad := Lib.hid (hn.out (by rw [decide_eq_false (p := k ≤ 3) (by omega), Bool.and_false]))
          go_wp2
          go_returns
          unfold VarsIs
          rw [if_neg (fun h => by rw [hbad.out] at h; cases h.1)]
          exact ⟨_, rfl, by repeat' (first | (with_reducible exact Below.refl _ _) | (with_reducible assumption) | (with_reducible refine Below.alloc ?_ ?_ _) | (with_reducible refine Below.drew ?_) | (with_reducible refine belowN ?_ _) | (with_reducible refine Below.setCell ?_ ?_ _) | (with_reducible refine belowG ?_ ?_) | (with_reducible exact Nat.le_refl _) | (with_reducible refine le_sizeG ?_) | (with_reducible refine le_sizeA ?_) | (with_reducible refine le_sizeC ?_) | (with_reducible refine le_sizeD ?_) | (with_reducible refine le_sizeN ?_) | go_size | (simp [go_sem]; done))⟩
        · have hok := Lib.hid (show kindsB (vs.take (i + 1)) = true by rw [ht.out, hksK.out, decide_eq_true (by omega), decide_eq_true (by omega)]; rfl)
          go_wp2_with (at_builtin; refine wpList_append_lies _ rfl _ _ 27 rfl w.heap.size 47 j0 _ 2 24 Tryz.underlying27 hj hy1 hy2 hy3 rfl (by decide) (.slice oa i oc) i (varsC (vs.take i)) rfl (owns_below hownK.out (by repeat' (first | (with_reducible exact Below.refl _ _) | (with_reducible assumption) | (with_reducible refine Below.alloc ?_ ?_ _) | (with_reducible refine Below.drew ?_) | (with_reducible refine belowN ?_ _) | (with_reducible refine Below.setCell ?_ ?_ _) | (with_reducible refine belowG ?_ ?_) | (with_reducible exact Nat.le_refl _) | (with_reducible refine le_sizeG ?_) | (with_reducible refine le_sizeA ?_) | (with_reducible refine le_sizeC ?_) | (with_reducible refine le_sizeD ?_) | (with_reducible refine le_sizeN ?_) | go_size | (simp [go_sem]; done)))) ⟨_, 0, none⟩ 1 1 [.string s, .int .i64 k] rfl rfl (World.news_of_block (new_at (by simp))) (by intro u hu; simp at hu; rcases hu with rfl | rfl <;> rfl) (by decide) (by unfold maxLen; omega) (by omega) (by simp [go_sem]; omega) _ rfl ?_)
          intro g' cap' w1 hown1 hgrow hat1 hg1
          have hb1 : Below w.heap.size w w1 := Below.grown (by repeat' (first | (with_reducible exact Below.refl _ _) | (with_reducible assumption) | (with_reducible refine Below.alloc ?_ ?_ _) | (with_reducible refine Below.drew ?_) | (with_reducible refine belowN ?_ _) | (with_reducible refine Below.setCell ?_ ?_ _) | (with_reducible refine belowG ?_ ?_) | (with_reducible exact Nat.le_refl _) | (with_reducible refine le_sizeG ?_) | (with_reducible refine le_sizeA ?_) | (with_reducible refine le_sizeC ?_) | (with_reducible refine le_sizeD ?_) | (with_reducible refine le_sizeN ?_) | go_size | (simp [go_sem]; done))) hgrow (by simp [go_sem]; omega) (fun k hk => (hownK.out.lt k hk).1)
          have hown2 := Lib.hid hown1
          clear hown1 hgrow hat1 hg1 hownK hb
          go_wp2
          go_roundw
          case rel => exact ⟨i + 1, _, cap', by go_num, by omega, rfl, by rw [htk.out]; exact hown2.out, hok.out, hb1⟩
          case measure => simp [intOf]; omega
    · obtain rfl : i = vs.length := by omega
      rw [List.take_length] at hown hksK
      have hN := Lib.hid (vars_own hown)
      clear hown
      by_cases h100 : vs.length ≤ 100
      · have hd : (vs.length : Int) ≤ 100 := by omega
        go_wp2
        go_returns
        unfold VarsIs
        rw [if_pos ⟨hksK.out, h100⟩]
        exact ⟨_, _, rfl, hN.out, hb⟩
      · have hd : ¬ (vs.length : Int) ≤ 100 := by omega
        go_wp2
        go_returns
        unfold VarsIs
        rw [if_neg (fun h => h100 h.2)]
        exact ⟨_, rfl, hb⟩
end Go.Proofs.YtkjgfcbanlcmgaaGreatDoor

