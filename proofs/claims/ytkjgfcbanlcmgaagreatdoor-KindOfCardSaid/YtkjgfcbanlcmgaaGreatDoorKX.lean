/- KindOf, whatever came in. -/
import Derived.Test.YtkjgfcbanlcmgaaGreatDoorKF
import Derived.Test.YtkjgfcbanlcmgaaGreatDoorOS
import Derived.WalkKit
import Derived.ProofKit
import Derived.OpenShut
import Derived.Handy
import Derived.BigQuiet
import Derived.Lib.Hide
import Derived.WalkSmall
import Derived.WalkLawsBesides
namespace Go.Proofs.YtkjgfcbanlcmgaaGreatDoor
open Go.RowKit
theorem readT_nz {l : List UInt8} {x : Int} (h : readT l = .error x) : (x != 0) = true := by
  unfold readT at h
  split at h
  · rename_i hl
    cases h
    rw [bne, lexT_err hl]
    rfl
  · split at h
    · rename_i hp
      cases h
      exact parseT_nz hp
    · split at h
      · cases h
        rfl
      · cases h
set_option maxRecDepth 100000 in
set_option maxHeartbeats 2000000 in
theorem of_walk_short (s : ByteArray) (k : Int) (va : Option Addr) (vc : Nat) (vs : List (ByteArray × Int)) (sa : Option Addr) (sc : Nat) (ss : List ByteArray) (hsm : s.size ≤ maxLen) (hssm : ss.length ≤ maxLen) (hvm : vs.length ≤ maxLen) (hvz : vs.length * 24 ≤ 140737488355328)
    (hno : ¬ (kindsB vs = true ∧ vs.length ≤ 100) ∨ 600 < s.size ∨ 100 < ss.length ∨ ∃ x, readT s.data.toList = .error x) (w : World)
    (hv : VarsAt w va vs) (hl : Lb w) (he : Eg w) : Calls Tryz.prog 3 #[.string s, .agg #[.slice va vs.length vc, .slice sa ss.length sc], .int .i64 k] w (Ret (.bool true) w) := by
  have hgl := eg_lt he
  have A := Lib.hid (fun wx (hb : Below w.heap.size w wx) => anchor4_any wx (lb_below hl hb) (eg_keep he hgl hb))
  have V := Lib.hid (fun wx (hb : Below w.heap.size w wx) => vars_any va vc vs hvm hvz wx (vars_below hv hb))
  have R := Lib.hid (fun (h : s.size ≤ 600) wx (hb : Below w.heap.size w wx) => read3_any s (by omega) wx (lb_below hl hb) (eg_keep he hgl hb))
  unfold maxLen at hsm hssm
  clear hv hl he hgl hvm hvz
  by_cases hk : kindsB vs = true ∧ vs.length ≤ 100
  · replace hno := hno.resolve_left (fun h => h hk)
    go_enter Tryz.func3, Tryz.ntmps3
    go_wp2_with ((with_reducible refine (A.out _ (by repeat' (first | (with_reducible exact Below.refl _ _) | (with_reducible assumption) | (with_reducible refine Below.alloc ?_ ?_ _) | (with_reducible refine Below.drew ?_) | (with_reducible refine belowN ?_ _) | (with_reducible refine Below.setCell ?_ ?_ _) | (with_reducible refine belowG ?_ ?_) | (with_reducible exact Nat.le_refl _) | (with_reducible refine le_sizeG ?_) | (with_reducible refine le_sizeA ?_) | (with_reducible refine le_sizeC ?_) | (with_reducible refine le_sizeD ?_) | (with_reducible refine le_sizeN ?_) | go_size | (simp [go_sem]; done)))).mono ?_); intro e w1 hr; obtain ⟨rfl, p, rfl⟩ := hr.out; clear hr)
    refine (V.out _ (by repeat' (first | (with_reducible exact Below.refl _ _) | (with_reducible assumption) | (with_reducible refine Below.alloc ?_ ?_ _) | (with_reducible refine Below.drew ?_) | (with_reducible refine belowN ?_ _) | (with_reducible refine Below.setCell ?_ ?_ _) | (with_reducible refine belowG ?_ ?_) | (with_reducible exact Nat.le_refl _) | (with_reducible refine le_sizeG ?_) | (with_reducible refine le_sizeA ?_) | (with_reducible refine le_sizeC ?_) | (with_reducible refine le_sizeD ?_) | (with_reducible refine le_sizeN ?_) | go_size | (simp [go_sem]; done)))).mono ?_
    intro e w1 hr
    unfold VarsIs at hr
    rw [if_pos hk] at hr
    obtain ⟨oa, oc, rfl, _, hb⟩ := hr
    obtain ⟨p2, rfl⟩ := toG hb
    have i0 : InW w.heap.size (G p (w.alloc (.cells #[.slice va vs.length vc, .slice sa ss.length sc] 25))) := inferInstance
    clear V A hb hk
    by_cases h6 : 600 < s.size
    · have hd : (600 : Int) < (s.size : Int) := by omega
      go_wp2
      go_returns
      exact ⟨rfl, by repeat' (first | (with_reducible exact Below.refl _ _) | (with_reducible assumption) | (with_reducible refine Below.alloc ?_ ?_ _) | (with_reducible refine Below.drew ?_) | (with_reducible refine belowN ?_ _) | (with_reducible refine Below.setCell ?_ ?_ _) | (with_reducible refine belowG ?_ ?_) | (with_reducible exact Nat.le_refl _) | (with_reducible refine le_sizeG ?_) | (with_reducible refine le_sizeA ?_) | (with_reducible refine le_sizeC ?_) | (with_reducible refine le_sizeD ?_) | (with_reducible refine le_sizeN ?_) | go_size | (simp [go_sem]; done))⟩
    · have hd : ¬ (600 : Int) < (s.size : Int) := by omega
      by_cases h1 : 100 < ss.length
      · have hd1 : (100 : Int) < (ss.length : Int) := by omega
        go_wp2
        go_returns
        exact ⟨rfl, by repeat' (first | (with_reducible exact Below.refl _ _) | (with_reducible assumption) | (with_reducible refine Below.alloc ?_ ?_ _) | (with_reducible refine Below.drew ?_) | (with_reducible refine belowN ?_ _) | (with_reducible refine Below.setCell ?_ ?_ _) | (with_reducible refine belowG ?_ ?_) | (with_reducible exact Nat.le_refl _) | (with_reducible refine le_sizeG ?_) | (with_reducible refine le_sizeA ?_) | (with_reducible refine le_sizeC ?_) | (with_reducible refine le_sizeD ?_) | (with_reducible refine le_sizeN ?_) | go_size | (simp [go_sem]; done))⟩
      · have hd1 : ¬ (100 : Int) < (ss.length : Int) := by omega
        obtain ⟨x, hx⟩ := (hno.resolve_left h6).resolve_left h1
        have R1 := fun wx hb => R.out (by omega) wx hb
        rw [hx] at R1
        have hx1 := readT_nz hx
        replace R1 := Lib.hid R1
        clear hx R hno
        go_wp2_with fail
        refine (R1.out _ (by repeat' (first | (with_reducible exact Below.refl _ _) | (with_reducible assumption) | (with_reducible refine Below.alloc ?_ ?_ _) | (with_reducible refine Below.drew ?_) | (with_reducible refine belowN ?_ _) | (with_reducible refine Below.setCell ?_ ?_ _) | (with_reducible refine belowG ?_ ?_) | (with_reducible exact Nat.le_refl _) | (with_reducible refine le_sizeG ?_) | (with_reducible refine le_sizeA ?_) | (with_reducible refine le_sizeC ?_) | (with_reducible refine le_sizeD ?_) | (with_reducible refine le_sizeN ?_) | go_size | (simp [go_sem]; done)))).mono ?_
        intro e w2 hr
        obtain ⟨rfl, hb2⟩ := hr
        obtain ⟨p3, rfl⟩ := toG hb2
        clear R1 hb2
        go_wp2
        go_returns
        exact ⟨rfl, by repeat' (first | (with_reducible exact Below.refl _ _) | (with_reducible assumption) | (with_reducible refine Below.alloc ?_ ?_ _) | (with_reducible refine Below.drew ?_) | (with_reducible refine belowN ?_ _) | (with_reducible refine Below.setCell ?_ ?_ _) | (with_reducible refine belowG ?_ ?_) | (with_reducible exact Nat.le_refl _) | (with_reducible refine le_sizeG ?_) | (with_reducible refine le_sizeA ?_) | (with_reducible refine le_sizeC ?_) | (with_reducible refine le_sizeD ?_) | (with_reducible refine le_sizeN ?_) | go_size | (simp [go_sem]; done))⟩
  · clear hno R
    go_enter Tryz.func3, Tryz.ntmps3
    go_wp2_with ((with_reducible refine (A.out _ (by repeat' (first | (with_reducible exact Below.refl _ _) | (with_reducible assumption) | (with_reducible refine Below.alloc ?_ ?_ _) | (with_reducible refine Below.drew ?_) | (with_reducible refine belowN ?_ _) | (with_reducible refine Below.setCell ?_ ?_ _) | (with_reducible refine belowG ?_ ?_) | (with_reducible exact Nat.le_refl _) | (with_reducible refine le_sizeG ?_) | (with_reducible refine le_sizeA ?_) | (with_reducible refine le_sizeC ?_) | (with_reducible refine le_sizeD ?_) | (with_reducible refine le_sizeN ?_) | go_size | (simp [go_sem]; done)))).mono ?_); intro e w1 hr; obtain ⟨rfl, p, rfl⟩ := hr.out; clear hr)
    refine (V.out _ (by repeat' (first | (with_reducible exact Below.refl _ _) | (with_reducible assumption) | (with_reducible refine Below.alloc ?_ ?_ _) | (with_reducible refine Below.drew ?_) | (with_reducible refine belowN ?_ _) | (with_reducible refine Below.setCell ?_ ?_ _) | (with_reducible refine belowG ?_ ?_) | (with_reducible exact Nat.le_refl _) | (with_reducible refine le_sizeG ?_) | (with_reducible refine le_sizeA ?_) | (with_reducible refine le_sizeC ?_) | (with_reducible refine le_sizeD ?_) | (with_reducible refine le_sizeN ?_) | go_size | (simp [go_sem]; done)))).mono ?_
    intro e w1 hr
    unfold VarsIs at hr
    rw [if_neg hk] at hr
    obtain ⟨v, rfl, hb⟩ := hr
    obtain ⟨p2, rfl⟩ := toG hb
    clear V A hb hk
    go_wp2
    go_returns
    exact ⟨rfl, by repeat' (first | (with_reducible exact Below.refl _ _) | (with_reducible assumption) | (with_reducible refine Below.alloc ?_ ?_ _) | (with_reducible refine Below.drew ?_) | (with_reducible refine belowN ?_ _) | (with_reducible refine Below.setCell ?_ ?_ _) | (with_reducible refine belowG ?_ ?_) | (with_reducible exact Nat.le_refl _) | (with_reducible refine le_sizeG ?_) | (with_reducible refine le_sizeA ?_) | (with_reducible refine le_sizeC ?_) | (with_reducible refine le_sizeD ?_) | (with_reducible refine le_sizeN ?_) | go_size | (simp [go_sem]; done))⟩
theorem of_row {H : Type} (s : ByteArray) (k : Int) {v1 : Value} {d1 : DataW H} {vs : List (ByteArray × Int)} {ss : List ByteArray} {W : World} (S : ScopeV W v1 d1 vs ss)
    (hz : (d1.weights Tryz.prog 25).all (· ≤ reachBytes) = true) (hs : s.size ≤ maxLen) (hl : Lb W) (he : Eg W) : Calls Tryz.prog 3 #[.string s, v1, .int .i64 k] W (Ret (.bool true) W) := by
  have hr := (scope_reach S hz).1
  obtain ⟨va, vc, sa, sc, rfl, hv, hss, hvm, hsm, _⟩ := S
  by_cases hno : ¬ (kindsB vs = true ∧ vs.length ≤ 100) ∨ 600 < s.size ∨ 100 < ss.length ∨ ∃ x, readT s.data.toList = .error x
  · exact of_walk_short s k va vc vs sa sc ss hs hsm hvm hr hno W hv hl he
  · rcases h : readT s.data.toList with x | ns
    · exact absurd (.inr (.inr (.inr ⟨x, h⟩))) hno
    · have h1 : kindsB vs = true ∧ vs.length ≤ 100 := Decidable.not_not.1 (fun h => hno (.inl h))
      exact of_walk_ok s k va vc vs sa sc ss ns h (by omega) (by omega) h1.1 h1.2 W hv hss hl he
end Go.Proofs.YtkjgfcbanlcmgaaGreatDoor

