import Derived.Test.YtidbmampjjgkpaaDoorV0
import Derived.WalkKit
import Derived.ProofKit
import Derived.OpenShut
import Derived.Handy
import Derived.BigQuiet
import Derived.Lib.Hide
import Derived.WalkSmall
import Derived.WalkLawsBesides
namespace Go.Proofs.YtidbmampjjgkpaaDoor
open Go.RowKit
/-- The texts zs lie where the slice says. -/
def Txts (w : World) (ao : Option Addr) (zs : List ByteArray) : Prop := ∀ i (h : i < zs.length), ∃ a, ao = some a ∧ w.cell? (a.add i) = some (.string zs[i])
def hasB (zs : List ByteArray) (x : ByteArray) : Bool := zs.any fun y => y.toList == x.toList
theorem same_sym (x y : ByteArray) : (x.toList == y.toList) = (y.toList == x.toList) := by
  rw [Bool.eq_iff_iff, beq_iff_eq, beq_iff_eq]
  exact ⟨Eq.symm, Eq.symm⟩
theorem hasB_succ (zs : List ByteArray) (x : ByteArray) (i : Nat) (h : i < zs.length) : hasB (zs.take (i + 1)) x = (hasB (zs.take i) x || (zs[i].toList == x.toList)) := by
  unfold hasB
  rw [List.take_succ_eq_append_getElem h, List.any_append]
  simp
theorem hasB_at (zs : List ByteArray) (x : ByteArray) (i : Nat) (h : i < zs.length) (he : (zs[i].toList == x.toList) = true) : hasB zs x = true := by
  unfold hasB
  rw [List.any_eq_true]
  exact ⟨zs[i], List.getElem_mem h, he⟩
def IdxIs (b : Bool) (w : World) (e : Ending) (w' : World) : Prop := ∃ r : Int, e = .returned (.int .i64 r) ∧ decide (0 ≤ r) = b ∧ w = w'
theorem index_any (ao : Option Addr) (zs : List ByteArray) (cap : Nat) (x : ByteArray) (hn : zs.length ≤ 1000) (w : World) (hz : Txts w ao zs) : Calls Tryd.prog 98 #[.slice ao zs.length cap, .string x] w (IdxIs (hasB zs x) w) := by
  have hat := Lib.hid (fun i h he => hasB_at zs x i h he)
  have hsucc := Lib.hid (fun i h => hasB_succ zs x i h)
  replace hz := Lib.hid hz
  go_enter Tryd.func98, Tryd.ntmps98
  go_wp2
  go_loop [8] (fun v => ∃ i : Nat, i ≤ zs.length ∧ v = .int .i64 i ∧ hasB (zs.take i) x = false) (fun v => zs.length - (intOf v).toNat)
  case atStart => exact ⟨0, Nat.zero_le _, rfl, rfl⟩
  case round =>
    obtain ⟨i, hi, rfl, hall⟩ := hrel
    by_cases hlt : i < zs.length
    · obtain ⟨a, rfl, hc⟩ := hz.out i hlt
      rcases he : (zs[i].toList == x.toList)
      · have hnext := Lib.hid (show hasB (zs.take (i + 1)) x = false by rw [hsucc.out i hlt, hall, he]; rfl)
        rw [same_sym] at he
        clear hall
        go_wp2
        go_round
        case rel => exact ⟨i + 1, by omega, by go_num, hnext.out⟩
        case measure => simp [intOf]; omega
      · have hres := Lib.hid (hat.out i hlt he)
        rw [same_sym] at he
        clear hall
        go_wp2
        go_returns
        exact ⟨i, rfl, by rw [hres.out]; simp, rfl⟩
    · obtain rfl : i = zs.length := by omega
      have hres := Lib.hid (show hasB zs x = false by rw [List.take_length] at hall; exact hall)
      clear hall
      go_wp2
      go_returns
      exact ⟨-1, rfl, by rw [hres.out]; rfl, rfl⟩
theorem contains_any (ao : Option Addr) (zs : List ByteArray) (cap : Nat) (x : ByteArray) (hn : zs.length ≤ 1000) (w : World) (hz : Txts w ao zs) : Calls Tryd.prog 71 #[.slice ao zs.length cap, .string x] w (RetW (.bool (hasB zs x)) w) := by
  have I := Lib.hid (index_any ao zs cap x hn w hz)
  clear hz
  go_enter Tryd.func71, Tryd.ntmps71
  go_wp2_with fail
  refine I.out.mono ?_
  intro e w1 hr
  obtain ⟨r, rfl, hb, rfl⟩ := hr
  replace hb := Lib.hid hb
  by_cases h : 0 ≤ r
  · go_wp2
    go_returns
    exact ⟨by rw [← hb.out, decide_eq_true h]; try rfl, rfl⟩
  · go_wp2
    go_returns
    exact ⟨by rw [← hb.out]; try rfl, rfl⟩
theorem txts_below {w w' : World} {ao : Option Addr} {zs : List ByteArray} (h : Txts w ao zs) (hb : Below w.heap.size w w') : Txts w' ao zs := by
  intro i hi
  obtain ⟨a, ha, hc⟩ := h i hi
  exact ⟨a, ha, (hb.cell (World.block_lt_of_cell? _ _ hc)).trans hc⟩
theorem is_any (k : Int) (x : ByteArray) (n a : Int) (ao : Option Addr) (zs : List ByteArray) (cap : Nat) (hn : zs.length ≤ 1000) (w : World) (hz : Txts w ao zs) :
    Calls Tryd.prog 43 #[.agg #[.int .i64 k, .string x, .int .i64 n, .int .i64 a], .slice ao zs.length cap] w (Ret (.bool (((k == 1) || (k == 5)) && hasB zs x)) w) := by
  have C := Lib.hid (fun wx hb => contains_any ao zs cap x hn wx (txts_below hz hb))
  generalize hasB zs x = b at *
  clear hz
  rcases h1 : (k == 1) <;> rcases h2 : (k == 5) <;> cases b
  all_goals
    go_enter Tryd.func43, Tryd.ntmps43
    go_wp2_with ((with_reducible refine (C.out _ (by repeat' (first | (with_reducible exact Below.refl _ _) | (with_reducible assumption) | (with_reducible refine Below.alloc ?_ ?_ _) | (with_reducible refine Below.drew ?_) | (with_reducible refine belowN ?_ _) | (with_reducible refine Below.setCell ?_ ?_ _) | (with_reducible refine belowG ?_ ?_) | (with_reducible exact Nat.le_refl _) | (with_reducible refine le_sizeG ?_) | (with_reducible refine le_sizeA ?_) | (with_reducible refine le_sizeC ?_) | (with_reducible refine le_sizeD ?_) | (with_reducible refine le_sizeN ?_) | go_size | (simp [go_sem]; done)))).mono ?_); rintro e w1 ⟨rfl, rfl⟩)
    all_goals
      go_returns
      exact ⟨rfl, by repeat' (first | (with_reducible exact Below.refl _ _) | (with_reducible assumption) | (with_reducible refine Below.alloc ?_ ?_ _) | (with_reducible refine Below.drew ?_) | (with_reducible refine belowN ?_ _) | (with_reducible refine Below.setCell ?_ ?_ _) | (with_reducible refine belowG ?_ ?_) | (with_reducible exact Nat.le_refl _) | (with_reducible refine le_sizeG ?_) | (with_reducible refine le_sizeA ?_) | (with_reducible refine le_sizeC ?_) | (with_reducible refine le_sizeD ?_) | (with_reducible refine le_sizeN ?_) | go_size | (simp [go_sem]; done))⟩
theorem tokis_long (k : Int) (x : ByteArray) (n a : Int) (ao : Option Addr) (len cap : Nat) (hm : len ≤ maxLen) (h : 50 < len) (w : World) (hw : Lb w) :
    Calls Tryd.prog 12 #[.agg #[.int .i64 k, .string x, .int .i64 n, .int .i64 a], .slice ao len cap] w (Ret (.bool true) w) := by
  unfold maxLen at hm
  have A := Lib.hid (show ∀ wx, Below w.heap.size w wx → _ from fun wx h => anchor2_any wx (lb_below hw h))
  clear hw
  go_enter Tryd.func12, Tryd.ntmps12
  go_wp2_with ((with_reducible refine (A.out _ (by repeat' (first | (with_reducible exact Below.refl _ _) | (with_reducible assumption) | (with_reducible refine Below.alloc ?_ ?_ _) | (with_reducible refine Below.drew ?_) | (with_reducible refine belowN ?_ _) | (with_reducible refine Below.setCell ?_ ?_ _) | (with_reducible refine belowG ?_ ?_) | (with_reducible exact Nat.le_refl _) | (with_reducible refine le_sizeG ?_) | (with_reducible refine le_sizeA ?_) | (with_reducible refine le_sizeC ?_) | (with_reducible refine le_sizeD ?_) | (with_reducible refine le_sizeN ?_) | go_size | (simp [go_sem]; done)))).mono ?_); intro e w1 hr; obtain ⟨rfl, p, rfl⟩ := hr.out; clear hr)
  go_returns
  exact ⟨rfl, by repeat' (first | (with_reducible exact Below.refl _ _) | (with_reducible assumption) | (with_reducible refine Below.alloc ?_ ?_ _) | (with_reducible refine Below.drew ?_) | (with_reducible refine belowN ?_ _) | (with_reducible refine Below.setCell ?_ ?_ _) | (with_reducible refine belowG ?_ ?_) | (with_reducible exact Nat.le_refl _) | (with_reducible refine le_sizeG ?_) | (with_reducible refine le_sizeA ?_) | (with_reducible refine le_sizeC ?_) | (with_reducible refine le_sizeD ?_) | (with_reducible refine le_sizeN ?_) | go_size | (simp [go_sem]; done))⟩
set_option maxRecDepth 100000 in
set_option maxHeartbeats 1000000 in
theorem tokis_short (k : Int) (x : ByteArray) (n a : Int) (ao : Option Addr) (zs : List ByteArray) (cap : Nat) (h50 : zs.length ≤ 50) (w : World) (hw : Lb w) (hz : Txts w ao zs) :
    Calls Tryd.prog 12 #[.agg #[.int .i64 k, .string x, .int .i64 n, .int .i64 a], .slice ao zs.length cap] w (Ret (.bool true) w) := by
  have A := Lib.hid (show ∀ wx, Below w.heap.size w wx → _ from fun wx h => anchor2_any wx (lb_below hw h))
  have I := Lib.hid (show ∀ wx, Below w.heap.size w wx → _ from fun wx h => is_any k x n a ao zs cap (by omega) wx (txts_below hz h))
  have hsucc := Lib.hid (fun i h => hasB_succ zs x i h)
  replace hz := Lib.hid (show ∀ wx, Below w.heap.size w wx → _ from fun wx h => txts_below hz h)
  clear hw
  go_enter Tryd.func12, Tryd.ntmps12
  go_upto_region 5 with (first | ((with_reducible refine (A.out _ (by repeat' (first | (with_reducible exact Below.refl _ _) | (with_reducible assumption) | (with_reducible refine Below.alloc ?_ ?_ _) | (with_reducible refine Below.drew ?_) | (with_reducible refine belowN ?_ _) | (with_reducible refine Below.setCell ?_ ?_ _) | (with_reducible refine belowG ?_ ?_) | (with_reducible exact Nat.le_refl _) | (with_reducible refine le_sizeG ?_) | (with_reducible refine le_sizeA ?_) | (with_reducible refine le_sizeC ?_) | (with_reducible refine le_sizeD ?_) | (with_reducible refine le_sizeN ?_) | go_size | (simp [go_sem]; done)))).mono ?_); intro e w1 hr; obtain ⟨rfl, p, rfl⟩ := hr.out; clear hr))
  go_cut [2, 5] (fun v2 v5 wx => ∃ g : Nat, v2 = .pointer (some ⟨g, 0, none⟩) ∧ v5 = .bool false ∧ g < wx.heap.size ∧ wx.cell? ⟨g, 0, none⟩ = some (.int .i64 k) ∧ wx.cell? ⟨g, 1, none⟩ = some (.string x) ∧ wx.cell? ⟨g, 2, none⟩ = some (.int .i64 n) ∧ wx.cell? ⟨g, 3, none⟩ = some (.int .i64 a) ∧ Below w.heap.size w wx)
  case first =>
    go_wp2_with (first | ((with_reducible refine (A.out _ (by repeat' (first | (with_reducible exact Below.refl _ _) | (with_reducible assumption) | (with_reducible refine Below.alloc ?_ ?_ _) | (with_reducible refine Below.drew ?_) | (with_reducible refine belowN ?_ _) | (with_reducible refine Below.setCell ?_ ?_ _) | (with_reducible refine belowG ?_ ?_) | (with_reducible exact Nat.le_refl _) | (with_reducible refine le_sizeG ?_) | (with_reducible refine le_sizeA ?_) | (with_reducible refine le_sizeC ?_) | (with_reducible refine le_sizeD ?_) | (with_reducible refine le_sizeN ?_) | go_size | (simp [go_sem]; done)))).mono ?_); intro e w1 hr; obtain ⟨rfl, p, rfl⟩ := hr.out; clear hr))
    go_meet
    exact ⟨_, rfl, rfl, by simp [go_sem], by simp [go_sem], by simp [go_sem], by simp [go_sem], by simp [go_sem], by repeat' (first | (with_reducible exact Below.refl _ _) | (with_reducible assumption) | (with_reducible refine Below.alloc ?_ ?_ _) | (with_reducible refine Below.drew ?_) | (with_reducible refine belowN ?_ _) | (with_reducible refine Below.setCell ?_ ?_ _) | (with_reducible refine belowG ?_ ?_) | (with_reducible exact Nat.le_refl _) | (with_reducible refine le_sizeG ?_) | (with_reducible refine le_sizeA ?_) | (with_reducible refine le_sizeC ?_) | (with_reducible refine le_sizeD ?_) | (with_reducible refine le_sizeN ?_) | go_size | (simp [go_sem]; done))⟩
  case rest =>
    obtain ⟨g, rfl, rfl, hg, a0, a1, a2, a3, hb⟩ := hcut
    rename World => wq
    have hwz := hb.size
    go_wp2
    go_loop [5, 15] (fun v5 v => ∃ i : Nat, i ≤ zs.length ∧ v = .int .i64 i ∧ v5 = .bool (hasB (zs.take i) x)) (fun _ v => zs.length - (intOf v).toNat)
    case atStart => exact ⟨0, Nat.zero_le _, rfl, rfl⟩
    case round =>
      obtain ⟨i, hi, rfl, rfl⟩ := hrel
      by_cases hlt : i < zs.length
      · obtain ⟨a, rfl, hc⟩ := hz.out wq hb i hlt
        have hs := hsucc.out i hlt
        obtain ⟨b, hbb⟩ : ∃ b, hasB (zs.take i) x = b := ⟨_, rfl⟩
        rw [hbb] at hs ⊢
        clear hbb
        rcases he : (zs[i].toList == x.toList)
        · rw [he, Bool.or_false] at hs
          replace hs := Lib.hid hs
          cases b
          all_goals
            go_wp2
            go_round
            case rel => exact ⟨i + 1, by omega, by go_num, by rw [hs.out]⟩
            case measure => simp [intOf]; omega
        · rw [he, Bool.or_true] at hs
          replace hs := Lib.hid hs
          cases b
          all_goals
            go_wp2
            go_round
            case rel => exact ⟨i + 1, by omega, by go_num, by rw [hs.out]⟩
            case measure => simp [intOf]; omega
      · obtain rfl : i = zs.length := by omega
        rw [List.take_length]
        generalize hasB zs x = b at *
        rcases h1 : (k == 1) <;> rcases h2 : (k == 5) <;> cases b
        all_goals
          rw [h1, h2] at I
          go_wp2_with ((with_reducible refine (I.out _ (by repeat' (first | (with_reducible exact Below.refl _ _) | (with_reducible assumption) | (with_reducible refine Below.alloc ?_ ?_ _) | (with_reducible refine Below.drew ?_) | (with_reducible refine belowN ?_ _) | (with_reducible refine Below.setCell ?_ ?_ _) | (with_reducible refine belowG ?_ ?_) | (with_reducible exact Nat.le_refl _) | (with_reducible refine le_sizeG ?_) | (with_reducible refine le_sizeA ?_) | (with_reducible refine le_sizeC ?_) | (with_reducible refine le_sizeD ?_) | (with_reducible refine le_sizeN ?_) | go_size | (simp [go_sem]; done)))).mono ?_); intro e w1 hr; obtain ⟨rfl, p, rfl⟩ := hr.out; clear hr)
          go_returns
          exact ⟨rfl, by repeat' (first | (with_reducible exact Below.refl _ _) | (with_reducible assumption) | (with_reducible refine Below.alloc ?_ ?_ _) | (with_reducible refine Below.drew ?_) | (with_reducible refine belowN ?_ _) | (with_reducible refine Below.setCell ?_ ?_ _) | (with_reducible refine belowG ?_ ?_) | (with_reducible exact Nat.le_refl _) | (with_reducible refine le_sizeG ?_) | (with_reducible refine le_sizeA ?_) | (with_reducible refine le_sizeC ?_) | (with_reducible refine le_sizeD ?_) | (with_reducible refine le_sizeN ?_) | go_size | (simp [go_sem]; done))⟩
end Go.Proofs.YtidbmampjjgkpaaDoor
