/- Nodes that may be no expression come to nothing. -/
import Derived.Test.YtlekmpjmcbnjdaaGreatDoorEH
import Derived.Test.YtlekmpjmcbnjdaaGreatDoorKW
import Derived.WalkKit
import Derived.ProofKit
import Derived.OpenShut
import Derived.Handy
import Derived.BigQuiet
import Derived.Lib.Hide
import Derived.WalkSmall
import Derived.WalkLawsBesides
namespace Go.Proofs.YtlekmpjmcbnjdaaGreatDoor
open Go.RowKit
set_option maxRecDepth 100000 in
set_option maxHeartbeats 4000000 in
theorem eforms_walk (ao : Option Addr) (cap : Nat) (ns : List Nd) (va : Option Addr) (vc : Nat) (cs : List Cl) (ia : Option Addr) (n ic : Nat) (hm : ns.length ≤ maxLen) (hs : ∀ n ∈ ns, n.s.length ≤ 140737488351232 ∧ n.name.length ≤ 140737488351232) (hvm : cs.length ≤ maxLen) (hvz : cs.length * 48 ≤ 140737488355328) (hn : n ≤ maxLen) (w : World)
    (hN : NdsAt w ao ns) (hv : CellsAt w va cs) (hl : Lb w) (he : Eg w) : Calls Tryz.prog 5 #[.slice ao ns.length cap, envV va cs.length vc ia n ic] w (Ret (.bool true) w) := by
  have hgl := eg_lt he
  have A := Lib.hid (fun wx (hb : Below w.heap.size w wx) => anchor5_any wx (lb_below hl hb) (eg_keep he hgl hb))
  have V := Lib.hid (fun wx (hb : Below w.heap.size w wx) => cells_any va vc cs ia n ic hvm hvz hn wx (cls_below hv hb))
  have T := fun (h100 : ns.length ≤ 100) wx (hb : Below w.heap.size w wx) => xright_any ao cap ns (by omega) hs wx (nds_below hN hb) (lb_below hl hb)
  generalize rightT ns = b at *
  unfold maxLen at hm
  replace T := Lib.hid T
  unfold envV at *
  clear hv hl he hN hs hvm hvz hgl hn
  go_enter Tryz.func5, Tryz.ntmps5
  go_wp2_with ((with_reducible refine (A.out _ (by repeat' (first | (with_reducible exact Below.refl _ _) | (with_reducible assumption) | (with_reducible refine Below.alloc ?_ ?_ _) | (with_reducible refine Below.drew ?_) | (with_reducible refine belowN ?_ _) | (with_reducible refine Below.setCell ?_ ?_ _) | (with_reducible refine belowG ?_ ?_) | (with_reducible exact Nat.le_refl _) | (with_reducible refine le_sizeG ?_) | (with_reducible refine le_sizeA ?_) | (with_reducible refine le_sizeC ?_) | (with_reducible refine le_sizeD ?_) | (with_reducible refine le_sizeN ?_) | go_size | (simp [go_sem]; done)))).mono ?_); intro e w1 hr; obtain ⟨rfl, p, rfl⟩ := hr.out; clear hr)
  refine (V.out _ (by repeat' (first | (with_reducible exact Below.refl _ _) | (with_reducible assumption) | (with_reducible refine Below.alloc ?_ ?_ _) | (with_reducible refine Below.drew ?_) | (with_reducible refine belowN ?_ _) | (with_reducible refine Below.setCell ?_ ?_ _) | (with_reducible refine belowG ?_ ?_) | (with_reducible exact Nat.le_refl _) | (with_reducible refine le_sizeG ?_) | (with_reducible refine le_sizeA ?_) | (with_reducible refine le_sizeC ?_) | (with_reducible refine le_sizeD ?_) | (with_reducible refine le_sizeN ?_) | go_size | (simp [go_sem]; done)))).mono ?_
  intro e w1 hr
  unfold CellsIs at hr
  split at hr
  · obtain ⟨oa, oc, rfl, _, hb⟩ := hr
    obtain ⟨p2, rfl⟩ := toG hb
    clear V A hb
    by_cases h100 : 100 < ns.length
    · have hd : (100 : Int) < (ns.length : Int) := by omega
      go_wp2
      go_returns
      exact ⟨rfl, by repeat' (first | (with_reducible exact Below.refl _ _) | (with_reducible assumption) | (with_reducible refine Below.alloc ?_ ?_ _) | (with_reducible refine Below.drew ?_) | (with_reducible refine belowN ?_ _) | (with_reducible refine Below.setCell ?_ ?_ _) | (with_reducible refine belowG ?_ ?_) | (with_reducible exact Nat.le_refl _) | (with_reducible refine le_sizeG ?_) | (with_reducible refine le_sizeA ?_) | (with_reducible refine le_sizeC ?_) | (with_reducible refine le_sizeD ?_) | (with_reducible refine le_sizeN ?_) | go_size | (simp [go_sem]; done))⟩
    · have hd : ¬ (100 : Int) < (ns.length : Int) := by omega
      have T1 := T.out (by omega)
      cases b
      · have O := fun wx (hb : Below w.heap.size w wx) => eeval_no va vc ia ic ao cap ns cs.length n wx (fun wy hy => T1 wy (hb.trans (hy.mono hb.size)))
        have I := fun wx (hb : Below w.heap.size w wx) => eholds_any (.slice ao ns.length cap) va cs.length vc ia n ic (errR 11) wx (fun wy hy => O wy (hb.trans (hy.mono hb.size)))
        rw [err_v] at O
        rw [show holdsV (errR 11) = .tuple #[.bool false, .int .i64 11] from rfl] at I
        unfold envV at O I
        replace O := Lib.hid O
        replace I := Lib.hid I
        have T2 := Lib.hid T1
        clear T T1
        go_wp2_with (first | ((with_reducible refine (T2.out _ (by repeat' (first | (with_reducible exact Below.refl _ _) | (with_reducible assumption) | (with_reducible refine Below.alloc ?_ ?_ _) | (with_reducible refine Below.drew ?_) | (with_reducible refine belowN ?_ _) | (with_reducible refine Below.setCell ?_ ?_ _) | (with_reducible refine belowG ?_ ?_) | (with_reducible exact Nat.le_refl _) | (with_reducible refine le_sizeG ?_) | (with_reducible refine le_sizeA ?_) | (with_reducible refine le_sizeC ?_) | (with_reducible refine le_sizeD ?_) | (with_reducible refine le_sizeN ?_) | go_size | (simp [go_sem]; done)))).mono ?_); intro e w1 hr; obtain ⟨rfl, p, rfl⟩ := hr.out; clear hr) | ((with_reducible refine (O.out _ (by repeat' (first | (with_reducible exact Below.refl _ _) | (with_reducible assumption) | (with_reducible refine Below.alloc ?_ ?_ _) | (with_reducible refine Below.drew ?_) | (with_reducible refine belowN ?_ _) | (with_reducible refine Below.setCell ?_ ?_ _) | (with_reducible refine belowG ?_ ?_) | (with_reducible exact Nat.le_refl _) | (with_reducible refine le_sizeG ?_) | (with_reducible refine le_sizeA ?_) | (with_reducible refine le_sizeC ?_) | (with_reducible refine le_sizeD ?_) | (with_reducible refine le_sizeN ?_) | go_size | (simp [go_sem]; done)))).mono ?_); intro e w1 hr; obtain ⟨rfl, p, rfl⟩ := hr.out; clear hr) | ((with_reducible refine (I.out _ (by repeat' (first | (with_reducible exact Below.refl _ _) | (with_reducible assumption) | (with_reducible refine Below.alloc ?_ ?_ _) | (with_reducible refine Below.drew ?_) | (with_reducible refine belowN ?_ _) | (with_reducible refine Below.setCell ?_ ?_ _) | (with_reducible refine belowG ?_ ?_) | (with_reducible exact Nat.le_refl _) | (with_reducible refine le_sizeG ?_) | (with_reducible refine le_sizeA ?_) | (with_reducible refine le_sizeC ?_) | (with_reducible refine le_sizeD ?_) | (with_reducible refine le_sizeN ?_) | go_size | (simp [go_sem]; done)))).mono ?_); intro e w1 hr; obtain ⟨rfl, p, rfl⟩ := hr.out; clear hr))
        go_returns
        exact ⟨rfl, by repeat' (first | (with_reducible exact Below.refl _ _) | (with_reducible assumption) | (with_reducible refine Below.alloc ?_ ?_ _) | (with_reducible refine Below.drew ?_) | (with_reducible refine belowN ?_ _) | (with_reducible refine Below.setCell ?_ ?_ _) | (with_reducible refine belowG ?_ ?_) | (with_reducible exact Nat.le_refl _) | (with_reducible refine le_sizeG ?_) | (with_reducible refine le_sizeA ?_) | (with_reducible refine le_sizeC ?_) | (with_reducible refine le_sizeD ?_) | (with_reducible refine le_sizeN ?_) | go_size | (simp [go_sem]; done))⟩
      · have T2 := Lib.hid T1
        clear T T1
        go_wp2_with ((with_reducible refine (T2.out _ (by repeat' (first | (with_reducible exact Below.refl _ _) | (with_reducible assumption) | (with_reducible refine Below.alloc ?_ ?_ _) | (with_reducible refine Below.drew ?_) | (with_reducible refine belowN ?_ _) | (with_reducible refine Below.setCell ?_ ?_ _) | (with_reducible refine belowG ?_ ?_) | (with_reducible exact Nat.le_refl _) | (with_reducible refine le_sizeG ?_) | (with_reducible refine le_sizeA ?_) | (with_reducible refine le_sizeC ?_) | (with_reducible refine le_sizeD ?_) | (with_reducible refine le_sizeN ?_) | go_size | (simp [go_sem]; done)))).mono ?_); intro e w1 hr; obtain ⟨rfl, p, rfl⟩ := hr.out; clear hr)
        go_returns
        exact ⟨rfl, by repeat' (first | (with_reducible exact Below.refl _ _) | (with_reducible assumption) | (with_reducible refine Below.alloc ?_ ?_ _) | (with_reducible refine Below.drew ?_) | (with_reducible refine belowN ?_ _) | (with_reducible refine Below.setCell ?_ ?_ _) | (with_reducible refine belowG ?_ ?_) | (with_reducible exact Nat.le_refl _) | (with_reducible refine le_sizeG ?_) | (with_reducible refine le_sizeA ?_) | (with_reducible refine le_sizeC ?_) | (with_reducible refine le_sizeD ?_) | (with_reducible refine le_sizeN ?_) | go_size | (simp [go_sem]; done))⟩
  · obtain ⟨v, rfl, hb⟩ := hr
    obtain ⟨p2, rfl⟩ := toG hb
    clear V A T hb
    go_wp2
    go_returns
    exact ⟨rfl, by repeat' (first | (with_reducible exact Below.refl _ _) | (with_reducible assumption) | (with_reducible refine Below.alloc ?_ ?_ _) | (with_reducible refine Below.drew ?_) | (with_reducible refine belowN ?_ _) | (with_reducible refine Below.setCell ?_ ?_ _) | (with_reducible refine belowG ?_ ?_) | (with_reducible exact Nat.le_refl _) | (with_reducible refine le_sizeG ?_) | (with_reducible refine le_sizeA ?_) | (with_reducible refine le_sizeC ?_) | (with_reducible refine le_sizeD ?_) | (with_reducible refine le_sizeN ?_) | go_size | (simp [go_sem]; done))⟩
theorem eforms_row {H : Type} {W : World} {v0 v1 : Value} {d1 : DataW H} {ns : List Nd} {cs : List Cl} {ins : List ByteArray} (N : NodesV W v0 ns) (hb : ∀ n ∈ ns, n.s.length ≤ 140737488351232 ∧ n.name.length ≤ 140737488351232) (E : EnvV W v1 d1 cs ins)
    (hz : (d1.weights Tryz.prog 25).all (· ≤ reachBytes) = true) (hl : Lb W) (he : Eg W) : Calls Tryz.prog 5 #[v0, v1] W (Ret (.bool true) W) := by
  have hr := env_reach E hz
  obtain ⟨ao, cap, rfl, hm, hN, _⟩ := N
  obtain ⟨va, vc, ia, ic, rfl, hv, _, hvm, him, _⟩ := E
  exact eforms_walk ao cap ns va vc cs ia ins.length ic hm hb hvm hr him W hN hv hl he
end Go.Proofs.YtlekmpjmcbnjdaaGreatDoor

