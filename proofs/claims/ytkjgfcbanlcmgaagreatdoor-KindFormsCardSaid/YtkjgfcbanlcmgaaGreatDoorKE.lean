/- The document's example (layer 4), and nodes that may be no expression. -/
import Derived.Test.YtkjgfcbanlcmgaaGreatDoorY7
import Derived.Test.YtkjgfcbanlcmgaaGreatDoorKD
import Derived.Test.YtkjgfcbanlcmgaaGreatDoorKV
import Derived.Test.YtkjgfcbanlcmgaaGreatDoorY5
import Derived.WalkKit
import Derived.ProofKit
import Derived.OpenShut
import Derived.Handy
import Derived.BigQuiet
import Derived.Lib.Hide
import Derived.WalkSmall
import Derived.WalkLawsBesides
namespace Go.Proofs.YtkjgfcbanlcmgaaGreatDoor
open Go.RowKit
def lineK : ByteArray := ⟨#[120, 32, 43, 32, 49]⟩
def nodesK : List Nd := [⟨16, 0, 0, [], [120], 0, 0⟩, ⟨0, 1, 1, [], [], 0, 0⟩, ⟨6, 0, 0, [], [], 0, 1⟩]
def xK : ByteArray := ⟨#[120]⟩
theorem read_K : readT lineK.data.toList = .ok nodesK := by kernel_rfl
theorem right_K : rightT nodesK = true := by kernel_rfl
theorem find_K (k : Int) : findV [(xK, k)] ⟨[120].toArray⟩ = some k := by
  show findV [(xK, k)] xK = some k
  rw [findV, if_pos (beq_self_eq_true _)]
theorem lin_K (k : Int) : linK (ownR [(xK, k)] []) [] nodesK = linK (ownR [(xK, k)] []) [k, 1] [⟨6, 0, 0, [], [], 0, 1⟩] := by
  unfold nodesK
  rw [linK_ok (k := k) (by rw [ownR_var _ _ rfl, find_K]), linK_ok (k := 1) (ownR_lit _ _ rfl _ _)]
  rfl
theorem lin_K1 : linK (ownR [(xK, 1)] []) [] nodesK = .ok [1, 1, 1] := by
  rw [lin_K, linK_ok (k := 1) (by rw [ownR_op _ _ (by decide) (by decide)]; rfl)]
  rfl
theorem lin_K3 : linK (ownR [(xK, 3)] []) [] nodesK = .error (20, 2) := by
  rw [lin_K, linK_err (x := 20) (by rw [ownR_op _ _ (by decide) (by decide)]; rfl)]
  rfl
set_option maxRecDepth 100000 in
set_option maxHeartbeats 2000000 in
theorem anchor4_any (w : World) (hl : Lb w) (he : Eg w) : Calls Tryz.prog 6 #[] w (Ret (.bool true) w) := by
  have R := read3_any lineK (by decide) w hl he
  rw [read_K] at R
  unfold lineK at R
  have hR := Lib.hid R
  have hX := Lib.hid (fun wx hb => lb_below (w' := wx) hl hb)
  clear R hl he
  go_enter Tryz.func6, Tryz.ntmps6
  go_wp2_with fail
  refine (hR.out).mono ?_
  intro e w1 hr
  obtain ⟨v, rfl, hown, hb⟩ := hr
  obtain ⟨na, nc, hv⟩ := own_form hown
  subst hv
  have hN := nds_own hown
  have hx1 := hX.out w1 hb
  have T := fun wx (hk : Below w1.heap.size w1 wx) => xright_any na nc nodesK (by decide) (by decide) wx (nds_below hN hk) (lb_below hx1 hk)
  rw [right_K] at T
  have O : ∀ k b wx, Below w1.heap.size w1 wx → wx.cell? ⟨b, 0, none⟩ = some (.string ⟨#[120]⟩) → wx.cell? ⟨b, 1, none⟩ = some (.int .i64 k) → Calls Tryz.prog 9 #[.slice na nodesK.length nc, .agg #[.slice (some ⟨b, 0, none⟩) 1 1, .slice none 0 0]] wx (Ret (ofK (linK (ownR [(xK, k)] []) [] nodesK) nodesK.length) wx) := by
    intro k b wx hk c0 c1
    refine kof_any (some ⟨b, 0, none⟩) 1 [(xK, k)] none 0 [] na nc nodesK right_K (by simp) (by simp) wx (nds_below hN hk) (fun _ => ⟨b, 0, rfl, World.block_lt_of_cell? _ _ c0, fun i hi => ?_⟩) (fun h => absurd h (Nat.not_lt_zero _)) (fun wy hy => T wy (hk.trans (hy.mono hk.size)))
    obtain rfl : i = 0 := by simp at hi; omega
    exact ⟨c0, c1⟩
  have O3 := Lib.hid (fun b wx hk c0 c1 => (O 3 b wx hk c0 c1))
  have O1 := Lib.hid (fun b wx hk c0 c1 => (O 1 b wx hk c0 c1))
  rw [lin_K3] at O3
  rw [lin_K1] at O1
  have e3 : ofK (.error (20, 2)) nodesK.length = .tuple #[.int .i64 0, .int .i64 20] := rfl
  have e1 : ofK (.ok [1, 1, 1]) nodesK.length = .tuple #[.int .i64 1, .int .i64 0] := rfl
  rw [e3] at O3
  rw [e1] at O1
  clear e1 e3 hR hX T O hown hN hx1
  generalize nodesK.length = L at *
  have hz1 := hb.size
  go_wp2_with fail
  refine (O3.out _ _ (by repeat' (first | (with_reducible exact Below.refl _ _) | (with_reducible assumption) | (with_reducible refine Below.alloc ?_ ?_ _) | (with_reducible refine Below.drew ?_) | (with_reducible refine belowN ?_ _) | (with_reducible refine Below.setCell ?_ ?_ _) | (with_reducible refine belowG ?_ ?_) | (with_reducible exact Nat.le_refl _) | (with_reducible refine le_sizeG ?_) | (with_reducible refine le_sizeA ?_) | (with_reducible refine le_sizeC ?_) | (with_reducible refine le_sizeD ?_) | (with_reducible refine le_sizeN ?_) | go_size | (simp [go_sem]; done))) (by simp [go_sem]) (by simp [go_sem])).mono ?_
  intro e w2 hr
  obtain ⟨rfl, p, rfl⟩ := hr.out
  clear hr O3
  go_wp2_with fail
  refine (O1.out _ _ (by repeat' (first | (with_reducible exact Below.refl _ _) | (with_reducible assumption) | (with_reducible refine Below.alloc ?_ ?_ _) | (with_reducible refine Below.drew ?_) | (with_reducible refine belowN ?_ _) | (with_reducible refine Below.setCell ?_ ?_ _) | (with_reducible refine belowG ?_ ?_) | (with_reducible exact Nat.le_refl _) | (with_reducible refine le_sizeG ?_) | (with_reducible refine le_sizeA ?_) | (with_reducible refine le_sizeC ?_) | (with_reducible refine le_sizeD ?_) | (with_reducible refine le_sizeN ?_) | go_size | (simp [go_sem]; done))) (by simp [go_sem]) (by simp [go_sem])).mono ?_
  intro e w2 hr
  obtain ⟨rfl, p2, rfl⟩ := hr.out
  clear hr O1
  go_wp2
  go_returns
  exact ⟨rfl, by repeat' (first | (with_reducible exact Below.refl _ _) | (with_reducible assumption) | (with_reducible refine Below.alloc ?_ ?_ _) | (with_reducible refine Below.drew ?_) | (with_reducible refine belowN ?_ _) | (with_reducible refine Below.setCell ?_ ?_ _) | (with_reducible refine belowG ?_ ?_) | (with_reducible exact Nat.le_refl _) | (with_reducible refine le_sizeG ?_) | (with_reducible refine le_sizeA ?_) | (with_reducible refine le_sizeC ?_) | (with_reducible refine le_sizeD ?_) | (with_reducible refine le_sizeN ?_) | go_size | (simp [go_sem]; done))⟩
set_option maxRecDepth 100000 in
set_option maxHeartbeats 4000000 in
theorem forms_walk (ao : Option Addr) (cap : Nat) (ns : List Nd) (va : Option Addr) (vc : Nat) (vs : List (ByteArray × Int)) (sa : Option Addr) (sn sc : Nat) (hm : ns.length ≤ maxLen) (hs : ∀ n ∈ ns, n.s.length ≤ 140737488351232 ∧ n.name.length ≤ 140737488351232) (hvm : vs.length ≤ maxLen) (hvz : vs.length * 24 ≤ 140737488355328) (w : World)
    (hN : NdsAt w ao ns) (hv : VarsAt w va vs) (hl : Lb w) (he : Eg w) : Calls Tryz.prog 4 #[.slice ao ns.length cap, .agg #[.slice va vs.length vc, .slice sa sn sc]] w (Ret (.bool true) w) := by
  have A := Lib.hid (fun wx (hb : Below w.heap.size w wx) => anchor4_any wx (lb_below hl hb) (eg_keep he (eg_lt he) hb))
  have V := Lib.hid (fun wx (hb : Below w.heap.size w wx) => vars_any va vc vs hvm hvz wx (vars_below hv hb))
  have T := fun (h100 : ns.length ≤ 100) wx (hb : Below w.heap.size w wx) => xright_any ao cap ns (by omega) hs wx (nds_below hN hb) (lb_below hl hb)
  generalize rightT ns = b at *
  unfold maxLen at hm
  replace T := Lib.hid T
  clear hv hl he hN hs hvm hvz
  go_enter Tryz.func4, Tryz.ntmps4
  go_wp2_with ((with_reducible refine (A.out _ (by repeat' (first | (with_reducible exact Below.refl _ _) | (with_reducible assumption) | (with_reducible refine Below.alloc ?_ ?_ _) | (with_reducible refine Below.drew ?_) | (with_reducible refine belowN ?_ _) | (with_reducible refine Below.setCell ?_ ?_ _) | (with_reducible refine belowG ?_ ?_) | (with_reducible exact Nat.le_refl _) | (with_reducible refine le_sizeG ?_) | (with_reducible refine le_sizeA ?_) | (with_reducible refine le_sizeC ?_) | (with_reducible refine le_sizeD ?_) | (with_reducible refine le_sizeN ?_) | go_size | (simp [go_sem]; done)))).mono ?_); intro e w1 hr; obtain ⟨rfl, p, rfl⟩ := hr.out; clear hr)
  refine (V.out _ (by repeat' (first | (with_reducible exact Below.refl _ _) | (with_reducible assumption) | (with_reducible refine Below.alloc ?_ ?_ _) | (with_reducible refine Below.drew ?_) | (with_reducible refine belowN ?_ _) | (with_reducible refine Below.setCell ?_ ?_ _) | (with_reducible refine belowG ?_ ?_) | (with_reducible exact Nat.le_refl _) | (with_reducible refine le_sizeG ?_) | (with_reducible refine le_sizeA ?_) | (with_reducible refine le_sizeC ?_) | (with_reducible refine le_sizeD ?_) | (with_reducible refine le_sizeN ?_) | go_size | (simp [go_sem]; done)))).mono ?_
  intro e w1 hr
  unfold VarsIs at hr
  split at hr
  · obtain ⟨oa, oc, rfl, _, hb⟩ := hr
    obtain ⟨p2, rfl⟩ := toG hb
    clear V A hb
    by_cases h100 : 100 < ns.length
    · have hd : (100 : Int) < (ns.length : Int) := by omega
      go_wp2
      go_returns
      exact ⟨rfl, by repeat' (first | (with_reducible exact Below.refl _ _) | (with_reducible assumption) | (with_reducible refine Below.alloc ?_ ?_ _) | (with_reducible refine Below.drew ?_) | (with_reducible refine belowN ?_ _) | (with_reducible refine Below.setCell ?_ ?_ _) | (with_reducible refine belowG ?_ ?_) | (with_reducible exact Nat.le_refl _) | (with_reducible refine le_sizeG ?_) | (with_reducible refine le_sizeA ?_) | (with_reducible refine le_sizeC ?_) | (with_reducible refine le_sizeD ?_) | (with_reducible refine le_sizeN ?_) | go_size | (simp [go_sem]; done))⟩
    · have hd : ¬ (100 : Int) < (ns.length : Int) := by omega
      have T1 := T.out (by omega)
      cases b
      · have O := Lib.hid (fun wx (hb : Below w.heap.size w wx) => kof_no va vc sa sc ao cap ns wx vs.length sn (fun wy hy => T1 wy (hb.trans (hy.mono hb.size))))
        have I := Lib.hid (fun wx (hb : Below w.heap.size w wx) => kis_any va vc sa sc (.slice ao ns.length cap) 0 11 1 wx vs.length sn (fun wy hy => O.out wy (hb.trans (hy.mono hb.size))))
        have T2 := Lib.hid T1
        rw [show isI 0 11 1 = 11 from rfl] at I
        clear T T1
        go_wp2_with (first | ((with_reducible refine (T2.out _ (by repeat' (first | (with_reducible exact Below.refl _ _) | (with_reducible assumption) | (with_reducible refine Below.alloc ?_ ?_ _) | (with_reducible refine Below.drew ?_) | (with_reducible refine belowN ?_ _) | (with_reducible refine Below.setCell ?_ ?_ _) | (with_reducible refine belowG ?_ ?_) | (with_reducible exact Nat.le_refl _) | (with_reducible refine le_sizeG ?_) | (with_reducible refine le_sizeA ?_) | (with_reducible refine le_sizeC ?_) | (with_reducible refine le_sizeD ?_) | (with_reducible refine le_sizeN ?_) | go_size | (simp [go_sem]; done)))).mono ?_); intro e w1 hr; obtain ⟨rfl, p, rfl⟩ := hr.out; clear hr) | ((with_reducible refine (O.out _ (by repeat' (first | (with_reducible exact Below.refl _ _) | (with_reducible assumption) | (with_reducible refine Below.alloc ?_ ?_ _) | (with_reducible refine Below.drew ?_) | (with_reducible refine belowN ?_ _) | (with_reducible refine Below.setCell ?_ ?_ _) | (with_reducible refine belowG ?_ ?_) | (with_reducible exact Nat.le_refl _) | (with_reducible refine le_sizeG ?_) | (with_reducible refine le_sizeA ?_) | (with_reducible refine le_sizeC ?_) | (with_reducible refine le_sizeD ?_) | (with_reducible refine le_sizeN ?_) | go_size | (simp [go_sem]; done)))).mono ?_); intro e w1 hr; obtain ⟨rfl, p, rfl⟩ := hr.out; clear hr) | ((with_reducible refine (I.out _ (by repeat' (first | (with_reducible exact Below.refl _ _) | (with_reducible assumption) | (with_reducible refine Below.alloc ?_ ?_ _) | (with_reducible refine Below.drew ?_) | (with_reducible refine belowN ?_ _) | (with_reducible refine Below.setCell ?_ ?_ _) | (with_reducible refine belowG ?_ ?_) | (with_reducible exact Nat.le_refl _) | (with_reducible refine le_sizeG ?_) | (with_reducible refine le_sizeA ?_) | (with_reducible refine le_sizeC ?_) | (with_reducible refine le_sizeD ?_) | (with_reducible refine le_sizeN ?_) | go_size | (simp [go_sem]; done)))).mono ?_); intro e w1 hr; obtain ⟨rfl, p, rfl⟩ := hr.out; clear hr))
        go_returns
        exact ⟨rfl, by repeat' (first | (with_reducible exact Below.refl _ _) | (with_reducible assumption) | (with_reducible refine Below.alloc ?_ ?_ _) | (with_reducible refine Below.drew ?_) | (with_reducible refine belowN ?_ _) | (with_reducible refine Below.setCell ?_ ?_ _) | (with_reducible refine belowG ?_ ?_) | (with_reducible exact Nat.le_refl _) | (with_reducible refine le_sizeG ?_) | (with_reducible refine le_sizeA ?_) | (with_reducible refine le_sizeC ?_) | (with_reducible refine le_sizeD ?_) | (with_reducible refine le_sizeN ?_) | go_size | (simp [go_sem]; done))⟩
      · have T2 := Lib.hid T1
        clear T T1
        go_wp2_with ((with_reducible refine (T2.out _ (by repeat' (first | (with_reducible exact Below.refl _ _) | (with_reducible assumption) | (with_reducible refine Below.alloc ?_ ?_ _) | (with_reducible refine Below.drew ?_) | (with_reducible refine belowN ?_ _) | (with_reducible refine Below.setCell ?_ ?_ _) | (with_reducible refine belowG ?_ ?_) | (with_reducible exact Nat.le_refl _) | (with_reducible refine le_sizeG ?_) | (with_reducible refine le_sizeA ?_) | (with_reducible refine le_sizeC ?_) | (with_reducible refine le_sizeD ?_) | (with_reducible refine le_sizeN ?_) | go_size | (simp [go_sem]; done)))).mono ?_); intro e w1 hr; obtain ⟨rfl, p, rfl⟩ := hr.out; clear hr)
        go_returns
        exact ⟨rfl, by repeat' (first | (with_reducible exact Below.refl _ _) | (with_reducible assumption) | (with_reducible refine Below.alloc ?_ ?_ _) | (with_reducible refine Below.drew ?_) | (with_reducible refine belowN ?_ _) | (with_reducible refine Below.setCell ?_ ?_ _) | (with_reducible refine belowG ?_ ?_) | (with_reducible exact Nat.le_refl _) | (with_reducible refine le_sizeG ?_) | (with_reducible refine le_sizeA ?_) | (with_reducible refine le_sizeC ?_) | (with_reducible refine le_sizeD ?_) | (with_reducible refine le_sizeN ?_) | go_size | (simp [go_sem]; done))⟩
  · obtain ⟨v, rfl, hb⟩ := hr
    obtain ⟨p2, rfl⟩ := toG hb
    clear V A T hb
    go_wp2
    go_returns
    exact ⟨rfl, by repeat' (first | (with_reducible exact Below.refl _ _) | (with_reducible assumption) | (with_reducible refine Below.alloc ?_ ?_ _) | (with_reducible refine Below.drew ?_) | (with_reducible refine belowN ?_ _) | (with_reducible refine Below.setCell ?_ ?_ _) | (with_reducible refine belowG ?_ ?_) | (with_reducible exact Nat.le_refl _) | (with_reducible refine le_sizeG ?_) | (with_reducible refine le_sizeA ?_) | (with_reducible refine le_sizeC ?_) | (with_reducible refine le_sizeD ?_) | (with_reducible refine le_sizeN ?_) | go_size | (simp [go_sem]; done))⟩
end Go.Proofs.YtkjgfcbanlcmgaaGreatDoor

